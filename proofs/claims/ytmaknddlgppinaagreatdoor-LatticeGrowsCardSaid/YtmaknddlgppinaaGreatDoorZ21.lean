/-
  CUT and joined from the texts of this seat: A1 E2 E3
-/
import Derived.Test.YtmaknddlgppinaaGreatDoorZ20
import Derived.LoopN
import Derived.Deep.LoopGhost
set_option linter.unusedVariables false
set_option linter.unusedSimpArgs false
namespace Go.Proofs.YtmaknddlgppinaaGreatDoor
open Go.RowKit
/-- The slice value v is the call's own row of the bytes l. -/
def OwnB (w : World) (base : Nat) (v : Value) (l : List UInt8) : Prop := w.ownsRow base 5 1 v l.length (bcells l)
/-- The byte of a number at that place. -/
def byteAt (n : Int) (i : Nat) : UInt8 := UInt8.ofNat (n / 256 ^ i % 256).toNat
def beN : Nat → Int → List UInt8
 | 0, _ => []
 | k + 1, n => byteAt n k :: beN k n
theorem beN_length : ∀ (k : Nat) (n : Int), (beN k n).length = k
 | 0, _ => rfl
 | k + 1, n => by rw [beN, List.length_cons, beN_length k n]
theorem byteAt_val (n : Int) (i : Nat) (q : Int) (h : n / 256 ^ i % 256 = q) : bcells [byteAt n i] = [.int .u8 q] := by
 have h0 : 0 ≤ n / 256 ^ i % 256 := Int.emod_nonneg _ (by decide)
 have h1 : n / 256 ^ i % 256 < 256 := Int.emod_lt_of_pos _ (by decide)
 unfold bcells byteAt
 simp only [List.map_cons, List.map_nil, List.cons.injEq, and_true, Value.int.injEq, true_and]
 rw [UInt8.toNat_ofNat']
 omega
theorem OwnB.more {w : World} {base : Nat} {v : Value} {l m : List UInt8} {c : Value} {N : Nat} (h : w.ownsRow base 5 1 v N (bcells l ++ [c])) (hm : bcells m = [c]) (hN : N = l.length + 1) : OwnB w base v (l ++ m) := by
 unfold OwnB
 have : m.length = 1 := by
  have := congrArg List.length hm
  simpa [bcells] using this
 rw [List.length_append, this, bcells_append, hm, ← hN]
 exact h
theorem OwnB.app {w : World} {base : Nat} {v : Value} {l : List UInt8} (h : OwnB w base v l) : w.ownsRow base 5 1 v l.length (bcells l) := h
theorem OwnB.nil (w : World) (base : Nat) : OwnB w base (.slice none 0 0) [] := World.ownsRow_nil _ _ _ _
theorem OwnB.below {w w' : World} {base : Nat} {v : Value} {l : List UInt8} (h : OwnB w base v l) (hb : Below w.heap.size w w') : OwnB w' base v l := own_below h hb
theorem OwnB.alloc {w : World} {base : Nat} {v : Value} {l : List UInt8} (h : OwnB w base v l) (o : Obj) : OwnB (w.alloc o) base v l := World.ownsRow.alloc h o
theorem OwnB.drew {w : World} {base : Nat} {v : Value} {l : List UInt8} (h : OwnB w base v l) : OwnB w.drew base v l := h
theorem OwnB.slice {w : World} {base : Nat} {v : Value} {l : List UInt8} (h : OwnB w base v l) : ∃ a c, v = .slice a l.length c := own_form h
/-- Below block 'base' all is as it was; so is each block that holds no bytes, wherever it lies. -/
structure Kept (base : Nat) (w w' : World) : Prop where
 below : Below base w w'
 other : ∀ (k : Nat) (cs : Array Value) (t : TypeId) (m : Nat × Nat), t ≠ 5 → w.heap[k]? = some (.cells cs t m) → w'.heap[k]? = some (.cells cs t m)
theorem Kept.refl (base : Nat) (w : World) : Kept base w w := ⟨Below.refl _ _, fun _ _ _ _ _ h => h⟩
theorem Kept.trans {base : Nat} {a b c : World} (h : Kept base a b) (k : Kept base b c) : Kept base a c := ⟨h.below.trans k.below, fun i cs t m ht e => k.other i cs t m ht (h.other i cs t m ht e)⟩
theorem Kept.of_below {base : Nat} {w w' : World} (h : Below w.heap.size w w') (hb : base ≤ w.heap.size) : Kept base w w' := ⟨h.mono hb, fun k cs t m _ e => (h.block k (lt_of_block e)).trans e⟩
theorem Kept.alloc {base : Nat} {a w : World} (h : Kept base a w) (hB : base ≤ w.heap.size) (o : Obj) : Kept base a (w.alloc o) := h.trans (Kept.of_below ((Below.refl _ _).alloc (Nat.le_refl _) o) hB)
theorem Kept.drew {base : Nat} {a w : World} (h : Kept base a w) : Kept base a w.drew := ⟨h.below.drew, h.other⟩
theorem Kept.size {base : Nat} {a w : World} (h : Kept base a w) : a.heap.size ≤ w.heap.size := h.below.size
theorem Kept.link {base : Nat} {a w w' : World} (h : Kept base a w) (hb : base ≤ w.heap.size) (k : Below w.heap.size w w') : Kept base a w' := h.trans (Kept.of_below k hb)
theorem OwnB.grown0 {w w' : World} {base : Nat} {v : Value} {l : List UInt8} (h : OwnB w base v l) (hb : base ≤ w.heap.size) (hg : w.grownBy w' v.ownBlock) : Kept base w w' := by
 refine ⟨(Below.refl base w).grown hg hb (fun k hk => (World.ownsRow.lt h k hk).1), fun k cs t m ht e => (hg.block k (lt_of_block e) ?_).trans e⟩
 intro e1
 rcases h.2 with ⟨rfl, _⟩ | ⟨g, cap, cur, rfl, _, hgg, _⟩
 ·simp [Value.ownBlock] at e1
 ·simp [Value.ownBlock] at e1
  subst e1
  rw [hgg] at e
  simp only [Option.some.injEq, Obj.cells.injEq] at e
  exact ht e.2.1.symm
theorem OwnB.grown {w w' : World} {base : Nat} {v : Value} {l : List UInt8} {o : Obj} (h : OwnB w base v l) (hb : base ≤ w.heap.size) (hg : (w.alloc o).grownBy w' v.ownBlock) : Kept base w w' :=
 ((Kept.refl base w).alloc hb o).trans (OwnB.grown0 (h.alloc o) (by simp; omega) hg)
set_option maxRecDepth 1000000 in
set_option maxHeartbeats 6400000 in
theorem appendNumber_1 (n : Int) (v : Value) (l : List UInt8) (base : Nat) (w : World) (hown : OwnB w base v l) (hl : l.length ≤ 1000000000) (hb : base ≤ w.heap.size) :
  Calls Tryz.prog 160 #[v, .int .i64 1, .int .i64 n] w fun e w' => ∃ v', e = .returned v' ∧ OwnB w' base v' (l ++ beN 1 n) ∧ Kept base w w' := by
 obtain ⟨i0, hi, hz0, hz1, hz2⟩ := info_parts Tryz.info5
 have HBE := Lib.hid (Kept.refl base w)
 have HO := Lib.hid hown
 clear hown
 go_enter Tryz.func160, Tryz.ntmps160
 go_wp2
 refine wp_loop_rounds 2 ?_
 rw [rounds_succ]
 go_wp2_with (at_builtin; refine wpList_append_own _ rfl (.tmp 14) (.tmp 20) 166 rfl base 5 i0 (.int .u8 0) 1 1 Tryz.underlying166 hi hz0 hz1 hz2 rfl (by decide) _ _ _ rfl (HO.out.app.alloc _) ⟨w.heap.size, 0, none⟩ 1 1 [.int .u8 (n % 256)] rfl rfl ?a0 ?b0 ?c0 ?d0 ?e0 ?_)
 case a0 => exact new_cells w [.int .u8 (n % 256)] 5
 case b0 => exact int_cells .u8 [(n % 256)]
 case c0 => unfold maxLen; first | omega | (simp only [List.length_append, List.length_cons, List.length_nil]; omega)
 case d0 => first | omega | (simp only [List.length_append, List.length_cons, List.length_nil]; omega)
 case e0 => simp; omega
 intro v1 w1 hown' hgrow _
 have HO1 := Lib.hid (OwnB.more hown' (byteAt_val n 0 (n % 256) (by simp)) (by simp))
 have HB1 := Lib.hid (HBE.out.trans (HO.out.grown (by omega) hgrow))
 clear hown' hgrow
 go_wp2
 rw [rounds_succ]
 go_wp2
 go_ret
 refine ⟨_, rfl, ?_, HB1.out⟩
 have := HO1.out
 skip
 exact this
set_option maxRecDepth 1000000 in
set_option maxHeartbeats 6400000 in
theorem appendNumber_2 (n : Int) (v : Value) (l : List UInt8) (base : Nat) (w : World) (hown : OwnB w base v l) (hl : l.length ≤ 1000000000) (hb : base ≤ w.heap.size) :
  Calls Tryz.prog 160 #[v, .int .i64 2, .int .i64 n] w fun e w' => ∃ v', e = .returned v' ∧ OwnB w' base v' (l ++ beN 2 n) ∧ Kept base w w' := by
 obtain ⟨i0, hi, hz0, hz1, hz2⟩ := info_parts Tryz.info5
 have HBE := Lib.hid (Kept.refl base w)
 have HO := Lib.hid hown
 clear hown
 go_enter Tryz.func160, Tryz.ntmps160
 go_wp2
 refine wp_loop_rounds 3 ?_
 rw [rounds_succ]
 go_wp2_with (at_builtin; refine wpList_append_own _ rfl (.tmp 14) (.tmp 20) 166 rfl base 5 i0 (.int .u8 0) 1 1 Tryz.underlying166 hi hz0 hz1 hz2 rfl (by decide) _ _ _ rfl (HO.out.app.alloc _) ⟨w.heap.size, 0, none⟩ 1 1 [.int .u8 (n / 256 % 256)] rfl rfl ?a1 ?b1 ?c1 ?d1 ?e1 ?_)
 case a1 => exact new_cells w [.int .u8 (n / 256 % 256)] 5
 case b1 => exact int_cells .u8 [(n / 256 % 256)]
 case c1 => unfold maxLen; first | omega | (simp only [List.length_append, List.length_cons, List.length_nil]; omega)
 case d1 => first | omega | (simp only [List.length_append, List.length_cons, List.length_nil]; omega)
 case e1 => simp; omega
 intro v1 w1 hown' hgrow _
 have HO1 := Lib.hid (OwnB.more hown' (byteAt_val n 1 (n / 256 % 256) (by simp)) (by simp))
 have HB1 := Lib.hid (HBE.out.trans (HO.out.grown (by omega) hgrow))
 clear hown' hgrow
 go_wp2
 rw [rounds_succ]
 go_wp2_with (at_builtin; refine wpList_append_own _ rfl (.tmp 14) (.tmp 20) 166 rfl base 5 i0 (.int .u8 0) 1 1 Tryz.underlying166 hi hz0 hz1 hz2 rfl (by decide) _ _ _ rfl (HO1.out.app.alloc _) ⟨w1.heap.size, 0, none⟩ 1 1 [.int .u8 (n % 256)] rfl rfl ?a0 ?b0 ?c0 ?d0 ?e0 ?_)
 case a0 => exact new_cells w1 [.int .u8 (n % 256)] 5
 case b0 => exact int_cells .u8 [(n % 256)]
 case c0 => unfold maxLen; first | omega | (simp only [List.length_append, List.length_cons, List.length_nil]; omega)
 case d0 => first | omega | (simp only [List.length_append, List.length_cons, List.length_nil]; omega)
 case e0 => simp; have := HB1.out.size; omega
 intro v2 w2 hown' hgrow _
 have HO2 := Lib.hid (OwnB.more hown' (byteAt_val n 0 (n % 256) (by simp)) (by simp))
 have HB2 := Lib.hid (HB1.out.trans (HO1.out.grown (by have := HB1.out.size; omega) hgrow))
 clear hown' hgrow
 go_wp2
 rw [rounds_succ]
 go_wp2
 go_ret
 refine ⟨_, rfl, ?_, HB2.out⟩
 have := HO2.out
 simp only [List.append_assoc, List.cons_append, List.nil_append] at this
 exact this
set_option maxRecDepth 1000000 in
set_option maxHeartbeats 6400000 in
theorem appendNumber_8 (n : Int) (v : Value) (l : List UInt8) (base : Nat) (w : World) (hown : OwnB w base v l) (hl : l.length ≤ 1000000000) (hb : base ≤ w.heap.size) :
  Calls Tryz.prog 160 #[v, .int .i64 8, .int .i64 n] w fun e w' => ∃ v', e = .returned v' ∧ OwnB w' base v' (l ++ beN 8 n) ∧ Kept base w w' := by
 obtain ⟨i0, hi, hz0, hz1, hz2⟩ := info_parts Tryz.info5
 have HBE := Lib.hid (Kept.refl base w)
 have HO := Lib.hid hown
 clear hown
 go_enter Tryz.func160, Tryz.ntmps160
 go_wp2
 refine wp_loop_rounds 9 ?_
 rw [rounds_succ]
 go_wp2_with (at_builtin; refine wpList_append_own _ rfl (.tmp 14) (.tmp 20) 166 rfl base 5 i0 (.int .u8 0) 1 1 Tryz.underlying166 hi hz0 hz1 hz2 rfl (by decide) _ _ _ rfl (HO.out.app.alloc _) ⟨w.heap.size, 0, none⟩ 1 1 [.int .u8 (n / 72057594037927936 % 256)] rfl rfl ?a7 ?b7 ?c7 ?d7 ?e7 ?_)
 case a7 => exact new_cells w [.int .u8 (n / 72057594037927936 % 256)] 5
 case b7 => exact int_cells .u8 [(n / 72057594037927936 % 256)]
 case c7 => unfold maxLen; first | omega | (simp only [List.length_append, List.length_cons, List.length_nil]; omega)
 case d7 => first | omega | (simp only [List.length_append, List.length_cons, List.length_nil]; omega)
 case e7 => simp; omega
 intro v1 w1 hown' hgrow _
 have HO1 := Lib.hid (OwnB.more hown' (byteAt_val n 7 (n / 72057594037927936 % 256) (by simp)) (by simp))
 have HB1 := Lib.hid (HBE.out.trans (HO.out.grown (by omega) hgrow))
 clear hown' hgrow
 go_wp2
 rw [rounds_succ]
 go_wp2_with (at_builtin; refine wpList_append_own _ rfl (.tmp 14) (.tmp 20) 166 rfl base 5 i0 (.int .u8 0) 1 1 Tryz.underlying166 hi hz0 hz1 hz2 rfl (by decide) _ _ _ rfl (HO1.out.app.alloc _) ⟨w1.heap.size, 0, none⟩ 1 1 [.int .u8 (n / 281474976710656 % 256)] rfl rfl ?a6 ?b6 ?c6 ?d6 ?e6 ?_)
 case a6 => exact new_cells w1 [.int .u8 (n / 281474976710656 % 256)] 5
 case b6 => exact int_cells .u8 [(n / 281474976710656 % 256)]
 case c6 => unfold maxLen; first | omega | (simp only [List.length_append, List.length_cons, List.length_nil]; omega)
 case d6 => first | omega | (simp only [List.length_append, List.length_cons, List.length_nil]; omega)
 case e6 => simp; have := HB1.out.size; omega
 intro v2 w2 hown' hgrow _
 have HO2 := Lib.hid (OwnB.more hown' (byteAt_val n 6 (n / 281474976710656 % 256) (by simp)) (by simp))
 have HB2 := Lib.hid (HB1.out.trans (HO1.out.grown (by have := HB1.out.size; omega) hgrow))
 clear hown' hgrow
 go_wp2
 rw [rounds_succ]
 go_wp2_with (at_builtin; refine wpList_append_own _ rfl (.tmp 14) (.tmp 20) 166 rfl base 5 i0 (.int .u8 0) 1 1 Tryz.underlying166 hi hz0 hz1 hz2 rfl (by decide) _ _ _ rfl (HO2.out.app.alloc _) ⟨w2.heap.size, 0, none⟩ 1 1 [.int .u8 (n / 1099511627776 % 256)] rfl rfl ?a5 ?b5 ?c5 ?d5 ?e5 ?_)
 case a5 => exact new_cells w2 [.int .u8 (n / 1099511627776 % 256)] 5
 case b5 => exact int_cells .u8 [(n / 1099511627776 % 256)]
 case c5 => unfold maxLen; first | omega | (simp only [List.length_append, List.length_cons, List.length_nil]; omega)
 case d5 => first | omega | (simp only [List.length_append, List.length_cons, List.length_nil]; omega)
 case e5 => simp; have := HB2.out.size; omega
 intro v3 w3 hown' hgrow _
 have HO3 := Lib.hid (OwnB.more hown' (byteAt_val n 5 (n / 1099511627776 % 256) (by simp)) (by simp))
 have HB3 := Lib.hid (HB2.out.trans (HO2.out.grown (by have := HB2.out.size; omega) hgrow))
 clear hown' hgrow
 go_wp2
 rw [rounds_succ]
 go_wp2_with (at_builtin; refine wpList_append_own _ rfl (.tmp 14) (.tmp 20) 166 rfl base 5 i0 (.int .u8 0) 1 1 Tryz.underlying166 hi hz0 hz1 hz2 rfl (by decide) _ _ _ rfl (HO3.out.app.alloc _) ⟨w3.heap.size, 0, none⟩ 1 1 [.int .u8 (n / 4294967296 % 256)] rfl rfl ?a4 ?b4 ?c4 ?d4 ?e4 ?_)
 case a4 => exact new_cells w3 [.int .u8 (n / 4294967296 % 256)] 5
 case b4 => exact int_cells .u8 [(n / 4294967296 % 256)]
 case c4 => unfold maxLen; first | omega | (simp only [List.length_append, List.length_cons, List.length_nil]; omega)
 case d4 => first | omega | (simp only [List.length_append, List.length_cons, List.length_nil]; omega)
 case e4 => simp; have := HB3.out.size; omega
 intro v4 w4 hown' hgrow _
 have HO4 := Lib.hid (OwnB.more hown' (byteAt_val n 4 (n / 4294967296 % 256) (by simp)) (by simp))
 have HB4 := Lib.hid (HB3.out.trans (HO3.out.grown (by have := HB3.out.size; omega) hgrow))
 clear hown' hgrow
 go_wp2
 rw [rounds_succ]
 go_wp2_with (at_builtin; refine wpList_append_own _ rfl (.tmp 14) (.tmp 20) 166 rfl base 5 i0 (.int .u8 0) 1 1 Tryz.underlying166 hi hz0 hz1 hz2 rfl (by decide) _ _ _ rfl (HO4.out.app.alloc _) ⟨w4.heap.size, 0, none⟩ 1 1 [.int .u8 (n / 16777216 % 256)] rfl rfl ?a3 ?b3 ?c3 ?d3 ?e3 ?_)
 case a3 => exact new_cells w4 [.int .u8 (n / 16777216 % 256)] 5
 case b3 => exact int_cells .u8 [(n / 16777216 % 256)]
 case c3 => unfold maxLen; first | omega | (simp only [List.length_append, List.length_cons, List.length_nil]; omega)
 case d3 => first | omega | (simp only [List.length_append, List.length_cons, List.length_nil]; omega)
 case e3 => simp; have := HB4.out.size; omega
 intro v5 w5 hown' hgrow _
 have HO5 := Lib.hid (OwnB.more hown' (byteAt_val n 3 (n / 16777216 % 256) (by simp)) (by simp))
 have HB5 := Lib.hid (HB4.out.trans (HO4.out.grown (by have := HB4.out.size; omega) hgrow))
 clear hown' hgrow
 go_wp2
 rw [rounds_succ]
 go_wp2_with (at_builtin; refine wpList_append_own _ rfl (.tmp 14) (.tmp 20) 166 rfl base 5 i0 (.int .u8 0) 1 1 Tryz.underlying166 hi hz0 hz1 hz2 rfl (by decide) _ _ _ rfl (HO5.out.app.alloc _) ⟨w5.heap.size, 0, none⟩ 1 1 [.int .u8 (n / 65536 % 256)] rfl rfl ?a2 ?b2 ?c2 ?d2 ?e2 ?_)
 case a2 => exact new_cells w5 [.int .u8 (n / 65536 % 256)] 5
 case b2 => exact int_cells .u8 [(n / 65536 % 256)]
 case c2 => unfold maxLen; first | omega | (simp only [List.length_append, List.length_cons, List.length_nil]; omega)
 case d2 => first | omega | (simp only [List.length_append, List.length_cons, List.length_nil]; omega)
 case e2 => simp; have := HB5.out.size; omega
 intro v6 w6 hown' hgrow _
 have HO6 := Lib.hid (OwnB.more hown' (byteAt_val n 2 (n / 65536 % 256) (by simp)) (by simp))
 have HB6 := Lib.hid (HB5.out.trans (HO5.out.grown (by have := HB5.out.size; omega) hgrow))
 clear hown' hgrow
 go_wp2
 rw [rounds_succ]
 go_wp2_with (at_builtin; refine wpList_append_own _ rfl (.tmp 14) (.tmp 20) 166 rfl base 5 i0 (.int .u8 0) 1 1 Tryz.underlying166 hi hz0 hz1 hz2 rfl (by decide) _ _ _ rfl (HO6.out.app.alloc _) ⟨w6.heap.size, 0, none⟩ 1 1 [.int .u8 (n / 256 % 256)] rfl rfl ?a1 ?b1 ?c1 ?d1 ?e1 ?_)
 case a1 => exact new_cells w6 [.int .u8 (n / 256 % 256)] 5
 case b1 => exact int_cells .u8 [(n / 256 % 256)]
 case c1 => unfold maxLen; first | omega | (simp only [List.length_append, List.length_cons, List.length_nil]; omega)
 case d1 => first | omega | (simp only [List.length_append, List.length_cons, List.length_nil]; omega)
 case e1 => simp; have := HB6.out.size; omega
 intro v7 w7 hown' hgrow _
 have HO7 := Lib.hid (OwnB.more hown' (byteAt_val n 1 (n / 256 % 256) (by simp)) (by simp))
 have HB7 := Lib.hid (HB6.out.trans (HO6.out.grown (by have := HB6.out.size; omega) hgrow))
 clear hown' hgrow
 go_wp2
 rw [rounds_succ]
 go_wp2_with (at_builtin; refine wpList_append_own _ rfl (.tmp 14) (.tmp 20) 166 rfl base 5 i0 (.int .u8 0) 1 1 Tryz.underlying166 hi hz0 hz1 hz2 rfl (by decide) _ _ _ rfl (HO7.out.app.alloc _) ⟨w7.heap.size, 0, none⟩ 1 1 [.int .u8 (n % 256)] rfl rfl ?a0 ?b0 ?c0 ?d0 ?e0 ?_)
 case a0 => exact new_cells w7 [.int .u8 (n % 256)] 5
 case b0 => exact int_cells .u8 [(n % 256)]
 case c0 => unfold maxLen; first | omega | (simp only [List.length_append, List.length_cons, List.length_nil]; omega)
 case d0 => first | omega | (simp only [List.length_append, List.length_cons, List.length_nil]; omega)
 case e0 => simp; have := HB7.out.size; omega
 intro v8 w8 hown' hgrow _
 have HO8 := Lib.hid (OwnB.more hown' (byteAt_val n 0 (n % 256) (by simp)) (by simp))
 have HB8 := Lib.hid (HB7.out.trans (HO7.out.grown (by have := HB7.out.size; omega) hgrow))
 clear hown' hgrow
 go_wp2
 rw [rounds_succ]
 go_wp2
 go_ret
 refine ⟨_, rfl, ?_, HB8.out⟩
 have := HO8.out
 simp only [List.append_assoc, List.cons_append, List.nil_append] at this
 exact this
def constV (c : Cn) : Value := .agg #[.int .i64 c.tag, .string c.text, .int .i64 c.n, .int .i64 c.a, .int .i64 c.b, .int .i64 c.c]
/-- A tag that there is, and no text and no number beside those of that tag. -/
def rightTagB (c : Cn) : Bool := (decide (c.text.size = 0) || decide (c.tag = 1)) && (decide (c.n = 0) || decide (c.tag = 2)) && decide (1 ≤ c.tag) && decide (c.tag ≤ 7)
set_option maxRecDepth 1000000 in
set_option maxHeartbeats 1600000 in
theorem rightTag_any (c : Cn) (w : World) :
  Calls Tryz.prog 173 #[constV c] w fun e w' => e = .returned (.bool (rightTagB c)) ∧ Below w.heap.size w w' := by
 obtain ⟨tag, text, n, a, b, d⟩ := c
 unfold constV rightTagB
 simp only
 have HBE := Lib.hid ((Below.refl w.heap.size w).alloc (Nat.le_refl _) (.cells #[.int .i64 tag, .string text, .int .i64 n, .int .i64 a, .int .i64 b, .int .i64 d] 138))
 have hx : (text.size = 0 ∧ text.toList = [] ∧ text.toList.isEmpty = true) ∨ (0 < text.size ∧ ¬ text.toList = [] ∧ text.toList.isEmpty = false) := by
  by_cases h : text.size = 0
  ·exact .inl ⟨h, nil_of0 h, emp_of0 h⟩
  ·exact .inr ⟨by omega, ne_ofpos (by omega), emp_ofpos (by omega)⟩
 rcases hx with ⟨hx, e1, e2⟩ | ⟨hx, e1, e2⟩
 all_goals
  obtain ⟨S, hS⟩ : ∃ S, text.size = S := ⟨_, rfl⟩
  rw [hS] at hx ⊢
  clear hS
  by_cases hn : n = 0
  all_goals
   rcases (show tag = 1 ∨ tag = 2 ∨ tag < 1 ∨ 7 < tag ∨ (3 ≤ tag ∧ tag ≤ 7) by omega) with ht | ht | ht | ht | ⟨ht, ht'⟩
   all_goals
    have f1 : (tag == 1) = decide (tag = 1) := rfl
    have f2 : (tag != 1) = !decide (tag = 1) := rfl
    have f3 : (tag == 2) = decide (tag = 2) := rfl
    have f4 : (tag != 2) = !decide (tag = 2) := rfl
    have f5 : (n != 0) = !decide (n = 0) := rfl
    first
     | subst hn
     | rw [decide_eq_false hn] at f5
    first
     | subst ht
     | (rw [decide_eq_false (by omega)] at f1 f2 f3 f4)
    go_enter Tryz.func173, Tryz.ntmps173
    go_wp2
    go_ret
    refine ⟨ret_b ?_, HBE.out⟩
    first
     | rfl
     | (simp; omega)
theorem rightTag_at (r : Bool) (c : Cn) (w : World) (h : rightTagB c = r) :
  Calls Tryz.prog 173 #[constV c] w fun e w' => e = .returned (.bool r) ∧ Below w.heap.size w w' := by
 have := rightTag_any c w
 rwa [h] at this
/-- The tags to which the links of a constant with the tag t lead; 0: no link. -/
def tag1 (t : Int) : Int := if t = 3 ∨ t = 4 ∨ t = 7 then 1 else if t = 5 ∨ t = 6 then 4 else 0
def tag2 (t : Int) : Int := if t = 5 ∨ t = 6 then 1 else 0
set_option maxRecDepth 1000000 in
set_option maxHeartbeats 1600000 in
theorem linkTags_any (t : Int) (w : World) :
  Calls Tryz.prog 174 #[.int .i64 t] w fun e w' => e = .returned (.agg #[.int .i64 (tag1 t), .int .i64 (tag2 t), .int .i64 (tag2 t)]) ∧ Below w.heap.size w w' := by
 have HBE := Lib.hid ((Below.refl w.heap.size w).alloc (Nat.le_refl _) (.cells #[.int .i64 0, .int .i64 0, .int .i64 0] 201))
 have ht : t = 3 ∨ t = 4 ∨ t = 7 ∨ t = 5 ∨ t = 6 ∨ (t ≠ 3 ∧ t ≠ 4 ∧ t ≠ 7 ∧ t ≠ 5 ∧ t ≠ 6) := by omega
 rcases ht with rfl | rfl | rfl | rfl | rfl | ⟨h3, h4, h7, h5, h6⟩
 all_goals
  try have g3 : (t == 3) = false := by simpa using h3
  try have g4 : (t == 4) = false := by simpa using h4
  try have g7 : (t == 7) = false := by simpa using h7
  try have g5 : (t == 5) = false := by simpa using h5
  try have g6 : (t == 6) = false := by simpa using h6
  go_enter Tryz.func174, Tryz.ntmps174
  go_wp2
 ·refine bodyPost_ret (v := .agg #[.int .i64 1, .int .i64 0, .int .i64 0]) (by simp [results, Tryz.results174, go_sem]) rfl ⟨rfl, ?_⟩
  exact (Below.refl _ _).alloc (Nat.le_refl _) _
 ·refine bodyPost_ret (v := .agg #[.int .i64 1, .int .i64 0, .int .i64 0]) (by simp [results, Tryz.results174, go_sem]) rfl ⟨rfl, ?_⟩
  exact (Below.refl _ _).alloc (Nat.le_refl _) _
 ·refine bodyPost_ret (v := .agg #[.int .i64 1, .int .i64 0, .int .i64 0]) (by simp [results, Tryz.results174, go_sem]) rfl ⟨rfl, ?_⟩
  exact (Below.refl _ _).alloc (Nat.le_refl _) _
 ·refine bodyPost_ret (v := .agg #[.int .i64 4, .int .i64 1, .int .i64 1]) (by simp [results, Tryz.results174, go_sem]) rfl ⟨rfl, ?_⟩
  exact (Below.refl _ _).alloc (Nat.le_refl _) _
 ·refine bodyPost_ret (v := .agg #[.int .i64 4, .int .i64 1, .int .i64 1]) (by simp [results, Tryz.results174, go_sem]) rfl ⟨rfl, ?_⟩
  exact (Below.refl _ _).alloc (Nat.le_refl _) _
 ·refine bodyPost_ret (v := .agg #[.int .i64 0, .int .i64 0, .int .i64 0]) (by simp [results, Tryz.results174, go_sem]) rfl ⟨?_, ?_⟩
  ·rw [show tag1 t = 0 by unfold tag1; rw [if_neg (by omega), if_neg (by omega)], show tag2 t = 0 by unfold tag2; rw [if_neg (by omega)]]
  ·exact (Below.refl _ _).alloc (Nat.le_refl _) _
/-- The error of the texts that a constant holds or leads to. -/
def textE (p : List Cn) (c : Cn) : Int :=
 if c.tag = 1 then runesE c.text else if c.tag = 4 then nameE (textP p c.a) else if c.tag = 7 then typeE (textP p c.a)
 else if c.tag = 5 then pairE p c.b c.c typeE else if c.tag = 6 then pairE p c.b c.c sigE else 0
/-- The first error of a row. -/
def firstErr {α : Type} (g : α → Int) : List α → Int
 | [] => 0
 | x :: r => if g x = 0 then firstErr g r else g x
theorem firstErr_append {α : Type} (g : α → Int) (a b : List α) : firstErr g (a ++ b) = if firstErr g a = 0 then firstErr g b else firstErr g a := by
 induction a with
 | nil => simp [firstErr]
 | cons x r ih =>
  simp only [List.cons_append, firstErr]
  split
  ·exact ih
  ·rfl
theorem firstErr_next {α : Type} (g : α → Int) (l : List α) (k : Nat) (x : α) (hx : l[k]? = some x) (h : firstErr g (l.take k) = 0) : firstErr g (l.take (k + 1)) = g x := by
 obtain ⟨hk, rfl⟩ := List.getElem?_eq_some_iff.1 hx
 rw [List.take_succ_eq_append_getElem hk, firstErr_append, if_pos h]
 simp only [firstErr]
 split
 ·rename_i h; exact h.symm
 ·rfl
theorem firstErr_stop {α : Type} (g : α → Int) (l : List α) (k : Nat) (h : firstErr g (l.take k) ≠ 0) : firstErr g l = firstErr g (l.take k) := by
 conv => lhs; rw [← List.take_append_drop k l, firstErr_append, if_neg h]
/-- The links of a constant are right. -/
def linksB (p : List Cn) (c : Cn) : Bool := linkB p c.a (tag1 c.tag) && (linkB p c.b (tag2 c.tag) && linkB p c.c (tag2 c.tag))
def constE (p : List Cn) (c : Cn) : Int := if rightTagB c = true then (if linksB p c = true then textE p c else 7) else 7
def poolE (p : List Cn) : Int := if 2000 < p.length then 3 else firstErr (constE p) p
/-- The box of a file. -/
def FBox (b : Nat) (Ap : Option Addr) (cp : Nat) (Ai : Option Addr) (ci : Nat) (Af : Option Addr) (cf : Nat) (Am : Option Addr) (cm : Nat) (f : Fl) (w : World) : Prop :=
 w.heap[b]? = some (.cells #[.slice Ap f.pool.length cp, .int .i64 f.fl, .int .i64 f.this, .int .i64 f.super, .slice Ai f.ifs.length ci, .slice Af f.fds.length cf, .slice Am f.mts.length cm] 94 (0, 0))
theorem FBox.new (Ap : Option Addr) (cp : Nat) (Ai : Option Addr) (ci : Nat) (Af : Option Addr) (cf : Nat) (Am : Option Addr) (cm : Nat) (f : Fl) (w : World) : FBox w.heap.size Ap cp Ai ci Af cf Am cm f (w.alloc (.cells #[.slice Ap f.pool.length cp, .int .i64 f.fl, .int .i64 f.this, .int .i64 f.super, .slice Ai f.ifs.length ci, .slice Af f.fds.length cf, .slice Am f.mts.length cm] 94)) := heap_new w _
section
variable {b : Nat} {Ap Ai Af Am : Option Addr} {cp ci cf cm : Nat} {f : Fl} {w : World}
theorem FBox.lt (h : FBox b Ap cp Ai ci Af cf Am cm f w) : b < w.heap.size := lt_of_block h
theorem FBox.alloc (h : FBox b Ap cp Ai ci Af cf Am cm f w) (o : Obj) : FBox b Ap cp Ai ci Af cf Am cm f (w.alloc o) := heap_alloc_lt h
theorem FBox.below {w' : World} {B : Nat} (h : FBox b Ap cp Ai ci Af cf Am cm f w) (hb : Below B w w') (hB : b < B) : FBox b Ap cp Ai ci Af cf Am cm f w' := Below.keep hb hB h
theorem FBox.set (h : FBox b Ap cp Ai ci Af cf Am cm f w) {p : Addr} (hp : b ≠ p.block) (u : Value) : FBox b Ap cp Ai ci Af cf Am cm f (w.setCell p u) := heap_setCell_ne hp h
theorem FBox.drew (h : FBox b Ap cp Ai ci Af cf Am cm f w) : FBox b Ap cp Ai ci Af cf Am cm f w.drew := h
theorem FBox.cells (h : FBox b Ap cp Ai ci Af cf Am cm f w) : w.cell? ⟨b, 0, none⟩ = some (.slice Ap f.pool.length cp) ∧ w.cell? ⟨b, 1, none⟩ = some (.int .i64 f.fl) ∧ w.cell? ⟨b, 2, none⟩ = some (.int .i64 f.this) ∧ w.cell? ⟨b, 3, none⟩ = some (.int .i64 f.super) ∧
  w.cell? ⟨b, 4, none⟩ = some (.slice Ai f.ifs.length ci) ∧ w.cell? ⟨b, 5, none⟩ = some (.slice Af f.fds.length cf) ∧ w.cell? ⟨b, 6, none⟩ = some (.slice Am f.mts.length cm) :=
 ⟨cells_of h 0, cells_of h 1, cells_of h 2, cells_of h 3, cells_of h 4, cells_of h 5, cells_of h 6⟩
end
theorem FileIs.at_ {B : Nat} {w : World} {Ap Ai Af Am : Option Addr} {cp ci cf cm : Nat} {f : Fl} (h : FileIs B w Ap cp Ai ci Af cf Am cm f) : FileAt B w (.agg #[.slice Ap f.pool.length cp, .int .i64 f.fl, .int .i64 f.this, .int .i64 f.super, .slice Ai f.ifs.length ci, .slice Af f.fds.length cf, .slice Am f.mts.length cm]) f := ⟨_, _, _, _, _, _, _, _, rfl, h⟩
theorem run_idx0 (a b c : Value) (W : World) : (Instr.index 201 (.agg #[a, b, c]) (.int .i64 0)).run Tryz.prog W = .ok a W := by
 simp [Instr.index, run_underlying Tryz.underlying201, asIntOf, go_sem]
theorem run_idx1 (a b c : Value) (W : World) : (Instr.index 201 (.agg #[a, b, c]) (.int .i64 1)).run Tryz.prog W = .ok b W := by
 simp [Instr.index, run_underlying Tryz.underlying201, asIntOf, go_sem]
theorem run_idx2 (a b c : Value) (W : World) : (Instr.index 201 (.agg #[a, b, c]) (.int .i64 2)).run Tryz.prog W = .ok c W := by
 simp [Instr.index, run_underlying Tryz.underlying201, asIntOf, go_sem]
end Go.Proofs.YtmaknddlgppinaaGreatDoor
