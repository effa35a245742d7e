/-
  WALK of the chapter's examples.
-/
import Derived.Test.YtjdaaecbnhcoaaaDoorK8
import Derived.Test.YtjdaaecbnhcoaaaDoorK2
set_option linter.unusedVariables false
set_option linter.unusedSimpArgs false
namespace Go.Proofs.YtjdaaecbnhcoaaaDoor
open Go.RowKit

theorem exE0 : decE (L ⟨#[44]⟩) = 0 := by kernel_rfl
theorem exL0 : decL (L ⟨#[44]⟩) = [⟨0, 44, 0, [], []⟩] := by kernel_rfl
theorem ex0 (w : World) : Calls Tryd.prog 19 #[.string ⟨#[44]⟩] w fun e w' => ∃ v, e = .returned (.tuple #[v, .int .i64 0]) ∧ NOwn w' w.heap.size v [⟨0, 44, 0, [], []⟩] ∧ Below w.heap.size w w' := by
  have := Decode_any ⟨#[44]⟩ w
  rw [exE0, exL0] at this
  exact this
theorem exE1 : decE (L ⟨#[4, 5, 44]⟩) = 0 := by kernel_rfl
theorem exL1 : decL (L ⟨#[4, 5, 44]⟩) = [⟨0, 4, 5, [], []⟩, ⟨2, 44, 0, [], []⟩] := by kernel_rfl
theorem ex1 (w : World) : Calls Tryd.prog 19 #[.string ⟨#[4, 5, 44]⟩] w fun e w' => ∃ v, e = .returned (.tuple #[v, .int .i64 0]) ∧ NOwn w' w.heap.size v [⟨0, 4, 5, [], []⟩, ⟨2, 44, 0, [], []⟩] ∧ Below w.heap.size w w' := by
  have := Decode_any ⟨#[4, 5, 44]⟩ w
  rw [exE1, exL1] at this
  exact this
theorem exE2 : decE (L ⟨#[20, 0, 3, 44]⟩) = 0 := by kernel_rfl
theorem exL2 : decL (L ⟨#[20, 0, 3, 44]⟩) = [⟨0, 20, 0, [], [3]⟩, ⟨3, 44, 0, [], []⟩] := by kernel_rfl
theorem ex2 (w : World) : Calls Tryd.prog 19 #[.string ⟨#[20, 0, 3, 44]⟩] w fun e w' => ∃ v, e = .returned (.tuple #[v, .int .i64 0]) ∧ NOwn w' w.heap.size v [⟨0, 20, 0, [], [3]⟩, ⟨3, 44, 0, [], []⟩] ∧ Below w.heap.size w w' := by
  have := Decode_any ⟨#[20, 0, 3, 44]⟩ w
  rw [exE2, exL2] at this
  exact this
theorem exE3 : decE (L ⟨#[20, 0, 2, 44]⟩) = 12 := by kernel_rfl
theorem exL3 : decL (L ⟨#[20, 0, 2, 44]⟩) = [] := by kernel_rfl
theorem ex3 (w : World) : Calls Tryd.prog 19 #[.string ⟨#[20, 0, 2, 44]⟩] w fun e w' => ∃ v, e = .returned (.tuple #[v, .int .i64 12]) ∧ NOwn w' w.heap.size v [] ∧ Below w.heap.size w w' := by
  have := Decode_any ⟨#[20, 0, 2, 44]⟩ w
  rw [exE3, exL3] at this
  exact this
theorem exE4 : decE (L ⟨#[0]⟩) = 13 := by kernel_rfl
theorem exL4 : decL (L ⟨#[0]⟩) = [] := by kernel_rfl
theorem ex4 (w : World) : Calls Tryd.prog 19 #[.string ⟨#[0]⟩] w fun e w' => ∃ v, e = .returned (.tuple #[v, .int .i64 13]) ∧ NOwn w' w.heap.size v [] ∧ Below w.heap.size w w' := by
  have := Decode_any ⟨#[0]⟩ w
  rw [exE4, exL4] at this
  exact this
theorem exE5 : decE (L ⟨#[255]⟩) = 11 := by kernel_rfl
theorem exL5 : decL (L ⟨#[255]⟩) = [] := by kernel_rfl
theorem ex5 (w : World) : Calls Tryd.prog 19 #[.string ⟨#[255]⟩] w fun e w' => ∃ v, e = .returned (.tuple #[v, .int .i64 11]) ∧ NOwn w' w.heap.size v [] ∧ Below w.heap.size w w' := by
  have := Decode_any ⟨#[255]⟩ w
  rw [exE5, exL5] at this
  exact this
theorem exE6 : decE (L ⟨#[20, 0]⟩) = 5 := by kernel_rfl
theorem exL6 : decL (L ⟨#[20, 0]⟩) = [] := by kernel_rfl
theorem ex6 (w : World) : Calls Tryd.prog 19 #[.string ⟨#[20, 0]⟩] w fun e w' => ∃ v, e = .returned (.tuple #[v, .int .i64 5]) ∧ NOwn w' w.heap.size v [] ∧ Below w.heap.size w w' := by
  have := Decode_any ⟨#[20, 0]⟩ w
  rw [exE6, exL6] at this
  exact this
theorem exName (w : World) (h : Names w) : Calls Tryd.prog 11 #[.int .i64 40] w fun e w' => e = .returned (.tuple #[.string ⟨#[118, 105, 114, 116]⟩, .bool true]) ∧ w = w' := by
  have := Name_any 40 w h
  rwa [show namT 40 = ⟨#[118, 105, 114, 116]⟩ by kernel_rfl, show isOpP 40 = true by kernel_rfl] at this
theorem exOp (w : World) (h : Names w) : Calls Tryd.prog 13 #[.string ⟨#[115, 97, 109, 101]⟩] w fun e w' => e = .returned (.tuple #[.int .i64 29, .bool true]) ∧ w = w' := by
  have := Op_any ⟨#[115, 97, 109, 101]⟩ w h
  rwa [show opK ⟨#[115, 97, 109, 101]⟩ = 29 by kernel_rfl, show opB ⟨#[115, 97, 109, 101]⟩ = true by kernel_rfl] at this
theorem exForm1 (w : World) : Calls Tryd.prog 15 #[.int .i64 1] w fun e w' => e = .returned (.int .u8 110) ∧ w = w' := Form_any 1 w
theorem exForm64 (w : World) : Calls Tryd.prog 15 #[.int .i64 64] w fun e w' => e = .returned (.int .u8 0) ∧ w = w' := Form_any 64 w
set_option maxRecDepth 1000000 in
set_option maxHeartbeats 6400000 in
theorem shown_any (w : World) (hN : Names w) : Calls Tryd.prog 10 #[] w fun e w' => e = .returned (.bool true) ∧ Below w.heap.size w w' := by
  have N0 := Lib.hid hN
  have B0 := Lib.hid (Below.refl w.heap.size w)
  clear hN
  go_enter Tryd.func10, Tryd.ntmps10
  go_wp2_with fail
  refine (ex0 _).mono ?_
  rintro e w1 ⟨v1, rfl, ho1, hb1⟩
  have N1 := Lib.hid (N0.out.below hb1)
  have B1 := Lib.hid (Below.link B0.out hb1)
  have O1 := Lib.hid ho1.row
  have hz1 := hb1.size
  skip
  clear hb1 ho1
  go_wp2_with fail
  refine (ex1 _).mono ?_
  rintro e w2 ⟨v2, rfl, ho2, hb2⟩
  have N2 := Lib.hid (N1.out.below hb2)
  have B2 := Lib.hid (Below.link B1.out hb2)
  have O2 := Lib.hid ho2.row
  have hz2 := hb2.size
  have O1 := Lib.hid (O1.out.below hb2 (Nat.le_refl _))
  skip
  clear hb2 ho2
  go_wp2_with fail
  refine (ex2 _).mono ?_
  rintro e w3 ⟨v3, rfl, ho3, hb3⟩
  have N3 := Lib.hid (N2.out.below hb3)
  have B3 := Lib.hid (Below.link B2.out hb3)
  have O3 := Lib.hid ho3.row
  have hz3 := hb3.size
  have O1 := Lib.hid (O1.out.below hb3 (by omega))
  have O2 := Lib.hid (O2.out.below hb3 (Nat.le_refl _))
  skip
  clear hb3 ho3
  go_wp2_with fail
  refine (ex3 _).mono ?_
  rintro e w4 ⟨v4, rfl, ho4, hb4⟩
  have N4 := Lib.hid (N3.out.below hb4)
  have B4 := Lib.hid (Below.link B3.out hb4)
  have O1 := Lib.hid (O1.out.below hb4 (by omega))
  have O2 := Lib.hid (O2.out.below hb4 (by omega))
  have O3 := Lib.hid (O3.out.below hb4 (Nat.le_refl _))
  have hz4 := hb4.size
  clear hb4 ho4
  go_wp2_with fail
  refine (ex4 _).mono ?_
  rintro e w5 ⟨v5, rfl, ho5, hb5⟩
  have N5 := Lib.hid (N4.out.below hb5)
  have B5 := Lib.hid (Below.link B4.out hb5)
  have O1 := Lib.hid (O1.out.below hb5 (by omega))
  have O2 := Lib.hid (O2.out.below hb5 (by omega))
  have O3 := Lib.hid (O3.out.below hb5 (by omega))
  have hz5 := hb5.size
  clear hb5 ho5
  go_wp2_with fail
  refine (ex5 _).mono ?_
  rintro e w6 ⟨v6, rfl, ho6, hb6⟩
  have N6 := Lib.hid (N5.out.below hb6)
  have B6 := Lib.hid (Below.link B5.out hb6)
  have O1 := Lib.hid (O1.out.below hb6 (by omega))
  have O2 := Lib.hid (O2.out.below hb6 (by omega))
  have O3 := Lib.hid (O3.out.below hb6 (by omega))
  have hz6 := hb6.size
  clear hb6 ho6
  go_wp2_with fail
  refine (ex6 _).mono ?_
  rintro e w7 ⟨v7, rfl, ho7, hb7⟩
  have N7 := Lib.hid (N6.out.below hb7)
  have B7 := Lib.hid (Below.link B6.out hb7)
  have O1 := Lib.hid (O1.out.below hb7 (by omega))
  have O2 := Lib.hid (O2.out.below hb7 (by omega))
  have O3 := Lib.hid (O3.out.below hb7 (by omega))
  have hz7 := hb7.size
  clear hb7 ho7
  go_wp2_with fail
  refine (exName _ N7.out).mono ?_
  rintro e w8 ⟨rfl, rfl⟩
  go_wp2_with fail
  refine (exOp _ N7.out).mono ?_
  rintro e w8 ⟨rfl, rfl⟩
  obtain ⟨a1, c1, rfl⟩ : ∃ a c, v1 = .slice a 1 c := by obtain ⟨a, c, h, _⟩ := O1.out.form; exact ⟨a, c, h⟩
  obtain ⟨a2, c2, rfl⟩ : ∃ a c, v2 = .slice a 2 c := by obtain ⟨a, c, h, _⟩ := O2.out.form; exact ⟨a, c, h⟩
  obtain ⟨a3, c3, rfl⟩ : ∃ a c, v3 = .slice a 2 c := by obtain ⟨a, c, h, _⟩ := O3.out.form; exact ⟨a, c, h⟩
  obtain ⟨b1, o1, _, _, _, _, rfl, hl1, _, _, x0, x1, x2, x3, x4⟩ := O1.out.at_ (k := 0) rfl
  obtain ⟨b2, o2, _, _, _, _, rfl, hl2, _, _, y0, y1, y2, y3, y4⟩ := O2.out.at_ (k := 0) rfl
  obtain ⟨b2', o2', _, _, _, _, e2, _, _, _, y0', _, _, _, _⟩ := O2.out.at_ (k := 1) rfl
  obtain ⟨b3, o3, _, _, at3, ct3, rfl, hl3, _, ht3, z0, z1, z2, z3, z4⟩ := O3.out.at_ (k := 0) rfl
  obtain ⟨b4, o4, rfl, hl4, t0⟩ := ht3.at_ (k := 0) rfl
  injection e2 with e2
  injection e2 with e2 e3
  subst e2 e3
  simp only [Nat.zero_mul, Nat.one_mul, Nat.add_zero, List.length_cons, List.length_nil, Nat.zero_add] at x0 x1 x2 x3 x4 y0 y1 y2 y3 y4 y0' z0 z1 z2 z3 z4 t0
  clear ht3
  go_wp2_with fail
  refine (exForm1 _).mono ?_
  rintro e w8 ⟨rfl, rfl⟩
  go_wp2_with fail
  refine (exForm64 _).mono ?_
  rintro e w8 ⟨rfl, rfl⟩
  go_wp2
  go_ret
  exact ⟨rfl, B7.out⟩
end Go.Proofs.YtjdaaecbnhcoaaaDoor
