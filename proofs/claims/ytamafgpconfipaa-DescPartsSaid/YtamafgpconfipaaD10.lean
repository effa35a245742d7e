/-
  WALK of the examples at the head of all laws of the chapter.
-/
import Derived.Test.YtamafgpconfipaaD9
set_option linter.unusedVariables false
set_option linter.unusedSimpArgs false
namespace Go.Proofs.Ytamafgpconfipaa
open Go.RowKit

theorem Below.link {a b c : World} (h : Below a.heap.size a b) (k : Below b.heap.size b c) : Below a.heap.size a c := h.trans (k.mono h.size)
theorem Field_at (s : ByteArray) (w : World) (x : Option Ty) (v : Value) (hs : s.size ≤ 9223372036854775807) (h : fieldL (L s) = x) (hv : fdV x = v) :
    Calls Try.prog 10 #[.string s] w fun e w' => e = .returned v ∧ Below w.heap.size w w' := by
  have := Field_any s w hs
  rwa [h, hv] at this
theorem Method_at (s : ByteArray) (w : World) (m : Option (List Ty × Option Ty)) (x : List Ty × Ty × Bool × Int) (hs : s.size ≤ 1000000) (h : methL (L s) = m) (hx : res m = x) :
    Calls Try.prog 20 #[.string s] w fun e w' => ∃ v, e = .returned (.tuple #[.agg #[v, .int .i64 x.2.1.1, .string (mkB x.2.1.2), .bool x.2.2.1], .int .i64 x.2.2.2]) ∧ w'.ownsRow w.heap.size 23 2 v x.1.length (tcells x.1) ∧ Below w.heap.size w w' := by
  have := Method_any s w hs
  rwa [h, hx] at this
theorem ex1 (w : World) : Calls Try.prog 10 #[.string ⟨#[73]⟩] w fun e w' => e = .returned (.tuple #[.agg #[.int .i64 0, .string ⟨#[]⟩], .int .i64 0]) ∧ Below w.heap.size w w' :=
  Field_at _ w (some (0, [])) _ (by decide) (by decide +kernel) rfl
theorem ex2 (w : World) : Calls Try.prog 10 #[.string ⟨#[91, 91, 76, 80, 111, 105, 110, 116, 59]⟩] w fun e w' => e = .returned (.tuple #[.agg #[.int .i64 2, .string ⟨#[80, 111, 105, 110, 116]⟩], .int .i64 0]) ∧ Below w.heap.size w w' :=
  Field_at _ w (some (2, [80, 111, 105, 110, 116])) _ (by decide) (by decide +kernel) rfl
theorem ex3 (w : World) : Calls Try.prog 10 #[.string ⟨#[76, 59]⟩] w fun e w' => e = .returned (.tuple #[.agg #[.int .i64 0, .string ⟨#[]⟩], .int .i64 9]) ∧ Below w.heap.size w w' :=
  Field_at _ w (none) _ (by decide) (by decide +kernel) rfl
theorem ex4 (w : World) : Calls Try.prog 10 #[.string ⟨#[76, 80, 111, 105, 110, 116]⟩] w fun e w' => e = .returned (.tuple #[.agg #[.int .i64 0, .string ⟨#[]⟩], .int .i64 9]) ∧ Below w.heap.size w w' :=
  Field_at _ w (none) _ (by decide) (by decide +kernel) rfl
theorem ex5 (w : World) : Calls Try.prog 10 #[.string ⟨#[91, 91, 91, 91, 91, 73]⟩] w fun e w' => e = .returned (.tuple #[.agg #[.int .i64 0, .string ⟨#[]⟩], .int .i64 9]) ∧ Below w.heap.size w w' :=
  Field_at _ w (none) _ (by decide) (by decide +kernel) rfl
theorem ex6 (w : World) : Calls Try.prog 10 #[.string ⟨#[73, 73]⟩] w fun e w' => e = .returned (.tuple #[.agg #[.int .i64 0, .string ⟨#[]⟩], .int .i64 9]) ∧ Below w.heap.size w w' :=
  Field_at _ w (none) _ (by decide) (by decide +kernel) rfl
theorem ex7 (w : World) : Calls Try.prog 20 #[.string ⟨#[40, 73, 76, 80, 111, 105, 110, 116, 59, 41, 86]⟩] w fun e w' => ∃ v, e = .returned (.tuple #[.agg #[v, .int .i64 0, .string ⟨#[]⟩, .bool true], .int .i64 0]) ∧ w'.ownsRow w.heap.size 23 2 v 2 (tcells [(0, []), (0, [80, 111, 105, 110, 116])]) ∧ Below w.heap.size w w' :=
  Method_at _ w (some ([(0, []), (0, [80, 111, 105, 110, 116])], none)) ([(0, []), (0, [80, 111, 105, 110, 116])], (0, []), true, 0) (by decide) (by decide +kernel) rfl
theorem ex8 (w : World) : Calls Try.prog 20 #[.string ⟨#[40, 41, 73]⟩] w fun e w' => ∃ v, e = .returned (.tuple #[.agg #[v, .int .i64 0, .string ⟨#[]⟩, .bool false], .int .i64 0]) ∧ w'.ownsRow w.heap.size 23 2 v 0 (tcells []) ∧ Below w.heap.size w w' :=
  Method_at _ w (some ([], some (0, []))) ([], (0, []), false, 0) (by decide) (by decide +kernel) rfl
theorem ex9 (w : World) : Calls Try.prog 20 #[.string ⟨#[40, 86, 41, 73]⟩] w fun e w' => ∃ v, e = .returned (.tuple #[.agg #[v, .int .i64 0, .string ⟨#[]⟩, .bool false], .int .i64 9]) ∧ w'.ownsRow w.heap.size 23 2 v 0 (tcells []) ∧ Below w.heap.size w w' :=
  Method_at _ w (none) ([], (0, []), false, 9) (by decide) (by decide +kernel) rfl
theorem ex10 (w : World) : Calls Try.prog 20 #[.string ⟨#[40, 41]⟩] w fun e w' => ∃ v, e = .returned (.tuple #[.agg #[v, .int .i64 0, .string ⟨#[]⟩, .bool false], .int .i64 9]) ∧ w'.ownsRow w.heap.size 23 2 v 0 (tcells []) ∧ Below w.heap.size w w' :=
  Method_at _ w (none) ([], (0, []), false, 9) (by decide) (by decide +kernel) rfl
theorem ex11 (w : World) : Calls Try.prog 14 #[.agg #[.int .i64 1, .string ⟨#[]⟩]] w fun e w' => e = .returned (.tuple #[.agg #[.int .i64 0, .string ⟨#[]⟩], .bool true]) ∧ Below w.heap.size w w' := by
  have := Element_any 1 ⟨#[]⟩ w
  rwa [show elV 1 ⟨#[]⟩ = .tuple #[.agg #[.int .i64 0, .string ⟨#[]⟩], .bool true] from if_pos ⟨by decide, by decide⟩] at this
theorem ex12 (w : World) : Calls Try.prog 14 #[.agg #[.int .i64 0, .string ⟨#[]⟩]] w fun e w' => e = .returned (.tuple #[.agg #[.int .i64 0, .string ⟨#[]⟩], .bool false]) ∧ Below w.heap.size w w' := by
  have := Element_any 0 ⟨#[]⟩ w
  rwa [show elV 0 ⟨#[]⟩ = .tuple #[.agg #[.int .i64 0, .string ⟨#[]⟩], .bool false] from if_neg (by decide)] at this
theorem ex13 (w : World) : Calls Try.prog 16 #[.agg #[.int .i64 4, .string ⟨#[]⟩]] w fun e w' => e = .returned (.tuple #[.agg #[.int .i64 0, .string ⟨#[]⟩], .bool false]) ∧ Below w.heap.size w w' := by
  have := ArrayOf_any 4 ⟨#[]⟩ w
  rwa [show arV 4 ⟨#[]⟩ = .tuple #[.agg #[.int .i64 0, .string ⟨#[]⟩], .bool false] from if_neg (by decide)] at this
theorem slice_two {w : World} {base : Nat} {v : Value} {xs : List Value} (h : w.ownsRow base 23 2 v 2 xs) : ∃ g cap, v = .slice (some ⟨g, 0, none⟩) 2 cap ∧ ∀ i u, xs[i]? = some u → w.cell? ⟨g, i, none⟩ = some u := by
  rcases h.2 with ⟨_, h0⟩ | ⟨g, cap, cur, rfl, hr⟩
  · omega
  · refine ⟨g, cap, rfl, fun i u hi => ?_⟩
    have := h.cells (g := g) rfl i u hi
    have e : (({ block := g, off := 0 } : Addr).add i) = ⟨g, i, none⟩ := by simp [Addr.add]; intro h0; exact h0.symm
    rw [e] at this
    exact this
theorem slice_zero {w : World} {base : Nat} {v : Value} {xs : List Value} (h : w.ownsRow base 23 2 v 0 xs) : ∃ a cap, v = .slice a 0 cap := by
  rcases h.2 with ⟨h1, _⟩ | ⟨g, cap, cur, rfl, hr⟩
  · exact ⟨_, _, h1⟩
  · exact ⟨_, _, rfl⟩
set_option maxRecDepth 1000000 in
set_option maxHeartbeats 6400000 in
theorem shown_any (w0 : World) : Calls Try.prog 9 #[] w0 fun e w' => e = .returned (.bool true) ∧ Below w0.heap.size w0 w' := by
  go_enter Try.func9, Try.ntmps9
  go_wp2_with fail
  refine (ex1 _).mono ?_
  rintro e w1 ⟨rfl, hb⟩
  have T1 := Lib.hid (hb.alloc hb.size (.cells #[.int .i64 0, .string ⟨#[]⟩] 23))
  clear hb
  go_wp2_with fail
  refine (ex2 _).mono ?_
  rintro e w2 ⟨rfl, hb⟩
  have T2 := Lib.hid (hb.alloc hb.size (.cells #[.int .i64 2, .string ⟨#[80, 111, 105, 110, 116]⟩] 23))
  clear hb
  go_wp2_with fail
  refine (ex3 _).mono ?_
  rintro e w3 ⟨rfl, hb⟩
  have T3 := Lib.hid (hb.alloc hb.size (.cells #[.int .i64 0, .string ⟨#[]⟩] 23))
  clear hb
  go_wp2_with fail
  refine (ex4 _).mono ?_
  rintro e w4 ⟨rfl, hb⟩
  have T4 := Lib.hid (hb.alloc hb.size (.cells #[.int .i64 0, .string ⟨#[]⟩] 23))
  clear hb
  go_wp2_with fail
  refine (ex5 _).mono ?_
  rintro e w5 ⟨rfl, hb⟩
  have T5 := Lib.hid (hb.alloc hb.size (.cells #[.int .i64 0, .string ⟨#[]⟩] 23))
  clear hb
  go_wp2_with fail
  refine (ex6 _).mono ?_
  rintro e w6 ⟨rfl, hb⟩
  have T6 := Lib.hid (hb.alloc hb.size (.cells #[.int .i64 0, .string ⟨#[]⟩] 23))
  clear hb
  go_wp2_with fail
  refine (ex7 _).mono ?_
  rintro e w7 ⟨v7, rfl, own7, hb⟩
  obtain ⟨g7, c7, rfl, hc7⟩ := slice_two own7
  have OWN7 := Lib.hid own7
  clear own7
  clear hc7
  have T7 := Lib.hid (hb.alloc hb.size (.cells #[(.slice (some ⟨g7, 0, none⟩) 2 c7), .int .i64 0, .string ⟨#[]⟩, .bool true] 36))
  clear hb
  go_wp2_with fail
  refine (ex8 _).mono ?_
  rintro e w8 ⟨v8, rfl, own8, hb⟩
  obtain ⟨a8, c8, rfl⟩ := slice_zero own8
  clear own8
  have T8 := Lib.hid (hb.alloc hb.size (.cells #[(.slice a8 0 c8), .int .i64 0, .string ⟨#[]⟩, .bool false] 36))
  clear hb
  go_wp2_with fail
  refine (ex9 _).mono ?_
  rintro e w9 ⟨v9, rfl, own9, hb⟩
  obtain ⟨a9, c9, rfl⟩ := slice_zero own9
  clear own9
  have T9 := Lib.hid (hb.alloc hb.size (.cells #[(.slice a9 0 c9), .int .i64 0, .string ⟨#[]⟩, .bool false] 36))
  clear hb
  go_wp2_with fail
  refine (ex10 _).mono ?_
  rintro e w10 ⟨v10, rfl, own10, hb⟩
  obtain ⟨a10, c10, rfl⟩ := slice_zero own10
  clear own10
  have T10 := Lib.hid (hb.alloc hb.size (.cells #[(.slice a10 0 c10), .int .i64 0, .string ⟨#[]⟩, .bool false] 36))
  clear hb
  go_wp2_with fail
  refine (ex11 _).mono ?_
  rintro e w11 ⟨rfl, hb⟩
  have T11 := Lib.hid (hb.alloc hb.size (.cells #[.int .i64 0, .string ⟨#[]⟩] 23))
  clear hb
  go_wp2_with fail
  refine (ex12 _).mono ?_
  rintro e w12 ⟨rfl, hb⟩
  have T12 := Lib.hid (hb.alloc hb.size (.cells #[.int .i64 0, .string ⟨#[]⟩] 23))
  clear hb
  go_wp2_with fail
  refine (ex13 _).mono ?_
  rintro e w13 ⟨rfl, hb⟩
  have T13 := Lib.hid hb
  clear hb
  have E12 := T13.out
  have E11 := Below.link T12.out E12
  have E10 := Below.link T11.out E11
  have E9 := Below.link T10.out E10
  have E8 := Below.link T9.out E9
  have E7 := Below.link T8.out E8
  have E6 := Below.link T7.out E7
  have E5 := Below.link T6.out E6
  have E4 := Below.link T5.out E5
  have E3 := Below.link T4.out E4
  have E2 := Below.link T3.out E3
  have E1 := Below.link T2.out E2
  have E0 := Below.link T1.out E1
  have HB := Lib.hid E0
  have HW := Lib.hid (own_below OWN7.out (Below.link ((Below.refl w7.heap.size w7).alloc (Nat.le_refl _) _) E7))
  have la : w1.heap.size < w13.heap.size := by have := E1.size; simp at this; omega
  have Ka := Below.keep E1 (by simp) (heap_new w1 _)
  have a0 : w13.cell? ⟨w1.heap.size, 0, none⟩ = some (.int .i64 0) := cells_of Ka 0
  have a1 : w13.cell? ⟨w1.heap.size, 1, none⟩ = some (.string ⟨#[]⟩) := cells_of Ka 1
  have lb : w2.heap.size < w13.heap.size := by have := E2.size; simp at this; omega
  have Kb := Below.keep E2 (by simp) (heap_new w2 _)
  have b0 : w13.cell? ⟨w2.heap.size, 0, none⟩ = some (.int .i64 2) := cells_of Kb 0
  have b1 : w13.cell? ⟨w2.heap.size, 1, none⟩ = some (.string ⟨#[80, 111, 105, 110, 116]⟩) := cells_of Kb 1
  have lm : w7.heap.size < w13.heap.size := by have := E7.size; simp at this; omega
  have Km := Below.keep E7 (by simp) (heap_new w7 _)
  have m0 : w13.cell? ⟨w7.heap.size, 0, none⟩ = some (.slice (some ⟨g7, 0, none⟩) 2 c7) := cells_of Km 0
  have m1 : w13.cell? ⟨w7.heap.size, 1, none⟩ = some (.int .i64 0) := cells_of Km 1
  have m2 : w13.cell? ⟨w7.heap.size, 2, none⟩ = some (.string ⟨#[]⟩) := cells_of Km 2
  have m3 : w13.cell? ⟨w7.heap.size, 3, none⟩ = some (.bool true) := cells_of Km 3
  have ln : w8.heap.size < w13.heap.size := by have := E8.size; simp at this; omega
  have Kn := Below.keep E8 (by simp) (heap_new w8 _)
  have n0 : w13.cell? ⟨w8.heap.size, 0, none⟩ = some (.slice a8 0 c8) := cells_of Kn 0
  have n1 : w13.cell? ⟨w8.heap.size, 1, none⟩ = some (.int .i64 0) := cells_of Kn 1
  have n2 : w13.cell? ⟨w8.heap.size, 2, none⟩ = some (.string ⟨#[]⟩) := cells_of Kn 2
  have n3 : w13.cell? ⟨w8.heap.size, 3, none⟩ = some (.bool false) := cells_of Kn 3
  have lx : w11.heap.size < w13.heap.size := by have := E11.size; simp at this; omega
  have Kx := Below.keep E11 (by simp) (heap_new w11 _)
  have x0 : w13.cell? ⟨w11.heap.size, 0, none⟩ = some (.int .i64 0) := cells_of Kx 0
  have x1 : w13.cell? ⟨w11.heap.size, 1, none⟩ = some (.string ⟨#[]⟩) := cells_of Kx 1
  have lg : g7 < w13.heap.size := (HW.out.lt g7 rfl).2
  have mq : w13.cell? ⟨g7, 3, none⟩ = some (.string ⟨#[80, 111, 105, 110, 116]⟩) := by
    have := HW.out.cells (g := g7) rfl 3 (.string ⟨#[80, 111, 105, 110, 116]⟩) (by rfl)
    exact this
  clear T1 T2 T3 T4 T5 T6 T7 T8 T9 T10 T11 T12 T13 E0 E1 E2 E3 E4 E5 E6 E7 E8 E9 E10 E11 E12 Ka Kb Km Kn Kx
  go_wp2
  go_ret
  exact ⟨rfl, HB.out.alloc (by have := HB.out.size; omega) _⟩
end Go.Proofs.Ytamafgpconfipaa
