/-
  WALKS of what is added to bytes: a number.
-/
import Derived.Test.YtcgloepfnnfioaaE1
import Derived.Test.YtcgloepfnnfioaaD9
import Derived.LoopN
set_option linter.unusedVariables false
set_option linter.unusedSimpArgs false
namespace Go.Proofs.Ytcgloepfnnfioaa
open Go.RowKit

/-- The slice value v is the call's own row of the bytes l. -/
def OwnB (w : World) (base : Nat) (v : Value) (l : List UInt8) : Prop := w.ownsRow base 5 1 v l.length (bcells l)
/-- The byte of a number at that place. -/
def byteAt (n : Int) (i : Nat) : UInt8 := UInt8.ofNat (n / 256 ^ i % 256).toNat
def beN : Nat → Int → List UInt8
  | 0, _ => []
  | k + 1, n => byteAt n k :: beN k n
theorem beN_length : ∀ (k : Nat) (n : Int), (beN k n).length = k
  | 0, _ => rfl
  | k + 1, n => by rw [beN, List.length_cons, beN_length k n]
theorem byteAt_val (n : Int) (i : Nat) (q : Int) (h : n / 256 ^ i % 256 = q) : bcells [byteAt n i] = [.int .u8 q] := by
  have h0 : 0 ≤ n / 256 ^ i % 256 := Int.emod_nonneg _ (by decide)
  have h1 : n / 256 ^ i % 256 < 256 := Int.emod_lt_of_pos _ (by decide)
  unfold bcells byteAt
  simp only [List.map_cons, List.map_nil, List.cons.injEq, and_true, Value.int.injEq, true_and]
  rw [UInt8.toNat_ofNat']
  omega
theorem OwnB.more {w : World} {base : Nat} {v : Value} {l m : List UInt8} {c : Value} {N : Nat} (h : w.ownsRow base 5 1 v N (bcells l ++ [c])) (hm : bcells m = [c]) (hN : N = l.length + 1) : OwnB w base v (l ++ m) := by
  unfold OwnB
  have : m.length = 1 := by
    have := congrArg List.length hm
    simpa [bcells] using this
  rw [List.length_append, this, bcells_append, hm, ← hN]
  exact h
theorem OwnB.app {w : World} {base : Nat} {v : Value} {l : List UInt8} (h : OwnB w base v l) : w.ownsRow base 5 1 v l.length (bcells l) := h
theorem OwnB.nil (w : World) (base : Nat) : OwnB w base (.slice none 0 0) [] := World.ownsRow_nil _ _ _ _
theorem OwnB.below {w w' : World} {base : Nat} {v : Value} {l : List UInt8} (h : OwnB w base v l) (hb : Below w.heap.size w w') : OwnB w' base v l := own_below h hb
theorem OwnB.alloc {w : World} {base : Nat} {v : Value} {l : List UInt8} (h : OwnB w base v l) (o : Obj) : OwnB (w.alloc o) base v l := World.ownsRow.alloc h o
theorem OwnB.drew {w : World} {base : Nat} {v : Value} {l : List UInt8} (h : OwnB w base v l) : OwnB w.drew base v l := h
theorem OwnB.slice {w : World} {base : Nat} {v : Value} {l : List UInt8} (h : OwnB w base v l) : ∃ a c, v = .slice a l.length c := own_form h
/-- Below block 'base' all is as it was; so is each block that holds no bytes, wherever it lies. -/
structure Kept (base : Nat) (w w' : World) : Prop where
  below : Below base w w'
  other : ∀ (k : Nat) (cs : Array Value) (t : TypeId) (m : Nat × Nat), t ≠ 5 → w.heap[k]? = some (.cells cs t m) → w'.heap[k]? = some (.cells cs t m)
theorem Kept.refl (base : Nat) (w : World) : Kept base w w := ⟨Below.refl _ _, fun _ _ _ _ _ h => h⟩
theorem Kept.trans {base : Nat} {a b c : World} (h : Kept base a b) (k : Kept base b c) : Kept base a c := ⟨h.below.trans k.below, fun i cs t m ht e => k.other i cs t m ht (h.other i cs t m ht e)⟩
theorem Kept.of_below {base : Nat} {w w' : World} (h : Below w.heap.size w w') (hb : base ≤ w.heap.size) : Kept base w w' := ⟨h.mono hb, fun k cs t m _ e => (h.block k (lt_of_block e)).trans e⟩
theorem Kept.alloc {base : Nat} {a w : World} (h : Kept base a w) (hB : base ≤ w.heap.size) (o : Obj) : Kept base a (w.alloc o) := h.trans (Kept.of_below ((Below.refl _ _).alloc (Nat.le_refl _) o) hB)
theorem Kept.drew {base : Nat} {a w : World} (h : Kept base a w) : Kept base a w.drew := ⟨h.below.drew, h.other⟩
theorem Kept.size {base : Nat} {a w : World} (h : Kept base a w) : a.heap.size ≤ w.heap.size := h.below.size
theorem Kept.link {base : Nat} {a w w' : World} (h : Kept base a w) (hb : base ≤ w.heap.size) (k : Below w.heap.size w w') : Kept base a w' := h.trans (Kept.of_below k hb)
theorem OwnB.grown0 {w w' : World} {base : Nat} {v : Value} {l : List UInt8} (h : OwnB w base v l) (hb : base ≤ w.heap.size) (hg : w.grownBy w' v.ownBlock) : Kept base w w' := by
  refine ⟨(Below.refl base w).grown hg hb (fun k hk => (World.ownsRow.lt h k hk).1), fun k cs t m ht e => (hg.block k (lt_of_block e) ?_).trans e⟩
  intro e1
  rcases h.2 with ⟨rfl, _⟩ | ⟨g, cap, cur, rfl, _, hgg, _⟩
  · simp [Value.ownBlock] at e1
  · simp [Value.ownBlock] at e1
    subst e1
    rw [hgg] at e
    simp only [Option.some.injEq, Obj.cells.injEq] at e
    exact ht e.2.1.symm
theorem OwnB.grown {w w' : World} {base : Nat} {v : Value} {l : List UInt8} {o : Obj} (h : OwnB w base v l) (hb : base ≤ w.heap.size) (hg : (w.alloc o).grownBy w' v.ownBlock) : Kept base w w' :=
  ((Kept.refl base w).alloc hb o).trans (OwnB.grown0 (h.alloc o) (by simp; omega) hg)
set_option maxRecDepth 1000000 in
set_option maxHeartbeats 6400000 in
theorem appendNumber_1 (n : Int) (v : Value) (l : List UInt8) (base : Nat) (w : World) (hown : OwnB w base v l) (hl : l.length ≤ 1000000000) (hb : base ≤ w.heap.size) :
    Calls Try.prog 49 #[v, .int .i64 1, .int .i64 n] w fun e w' => ∃ v', e = .returned v' ∧ OwnB w' base v' (l ++ beN 1 n) ∧ Kept base w w' := by
  obtain ⟨i0, hi, hz0, hz1, hz2⟩ := info_parts Try.info5
  have HBE := Lib.hid (Kept.refl base w)
  have HO := Lib.hid hown
  clear hown
  go_enter Try.func49, Try.ntmps49
  go_wp2
  refine wp_loop_rounds 2 ?_
  rw [rounds_succ]
  go_wp2_with (at_builtin; refine wpList_append_own _ rfl (.tmp 14) (.tmp 20) 49 rfl base 5 i0 (.int .u8 0) 1 1 Try.underlying49 hi hz0 hz1 hz2 rfl (by decide) _ _ _ rfl (HO.out.app.alloc _) ⟨w.heap.size, 0, none⟩ 1 1 [.int .u8 (n % 256)] rfl rfl ?a0 ?b0 ?c0 ?d0 ?e0 ?_)
  case a0 => exact new_cells w [.int .u8 (n % 256)] 5
  case b0 => exact int_cells .u8 [(n % 256)]
  case c0 => unfold maxLen; first | omega | (simp only [List.length_append, List.length_cons, List.length_nil]; omega)
  case d0 => first | omega | (simp only [List.length_append, List.length_cons, List.length_nil]; omega)
  case e0 => simp; omega
  intro v1 w1 hown' hgrow _
  have HO1 := Lib.hid (OwnB.more hown' (byteAt_val n 0 (n % 256) (by simp)) (by simp))
  have HB1 := Lib.hid (HBE.out.trans (HO.out.grown (by omega) hgrow))
  clear hown' hgrow
  go_wp2
  rw [rounds_succ]
  go_wp2
  go_ret
  refine ⟨_, rfl, ?_, HB1.out⟩
  have := HO1.out
  skip
  exact this
set_option maxRecDepth 1000000 in
set_option maxHeartbeats 6400000 in
theorem appendNumber_2 (n : Int) (v : Value) (l : List UInt8) (base : Nat) (w : World) (hown : OwnB w base v l) (hl : l.length ≤ 1000000000) (hb : base ≤ w.heap.size) :
    Calls Try.prog 49 #[v, .int .i64 2, .int .i64 n] w fun e w' => ∃ v', e = .returned v' ∧ OwnB w' base v' (l ++ beN 2 n) ∧ Kept base w w' := by
  obtain ⟨i0, hi, hz0, hz1, hz2⟩ := info_parts Try.info5
  have HBE := Lib.hid (Kept.refl base w)
  have HO := Lib.hid hown
  clear hown
  go_enter Try.func49, Try.ntmps49
  go_wp2
  refine wp_loop_rounds 3 ?_
  rw [rounds_succ]
  go_wp2_with (at_builtin; refine wpList_append_own _ rfl (.tmp 14) (.tmp 20) 49 rfl base 5 i0 (.int .u8 0) 1 1 Try.underlying49 hi hz0 hz1 hz2 rfl (by decide) _ _ _ rfl (HO.out.app.alloc _) ⟨w.heap.size, 0, none⟩ 1 1 [.int .u8 (n / 256 % 256)] rfl rfl ?a1 ?b1 ?c1 ?d1 ?e1 ?_)
  case a1 => exact new_cells w [.int .u8 (n / 256 % 256)] 5
  case b1 => exact int_cells .u8 [(n / 256 % 256)]
  case c1 => unfold maxLen; first | omega | (simp only [List.length_append, List.length_cons, List.length_nil]; omega)
  case d1 => first | omega | (simp only [List.length_append, List.length_cons, List.length_nil]; omega)
  case e1 => simp; omega
  intro v1 w1 hown' hgrow _
  have HO1 := Lib.hid (OwnB.more hown' (byteAt_val n 1 (n / 256 % 256) (by simp)) (by simp))
  have HB1 := Lib.hid (HBE.out.trans (HO.out.grown (by omega) hgrow))
  clear hown' hgrow
  go_wp2
  rw [rounds_succ]
  go_wp2_with (at_builtin; refine wpList_append_own _ rfl (.tmp 14) (.tmp 20) 49 rfl base 5 i0 (.int .u8 0) 1 1 Try.underlying49 hi hz0 hz1 hz2 rfl (by decide) _ _ _ rfl (HO1.out.app.alloc _) ⟨w1.heap.size, 0, none⟩ 1 1 [.int .u8 (n % 256)] rfl rfl ?a0 ?b0 ?c0 ?d0 ?e0 ?_)
  case a0 => exact new_cells w1 [.int .u8 (n % 256)] 5
  case b0 => exact int_cells .u8 [(n % 256)]
  case c0 => unfold maxLen; first | omega | (simp only [List.length_append, List.length_cons, List.length_nil]; omega)
  case d0 => first | omega | (simp only [List.length_append, List.length_cons, List.length_nil]; omega)
  case e0 => simp; have := HB1.out.size; omega
  intro v2 w2 hown' hgrow _
  have HO2 := Lib.hid (OwnB.more hown' (byteAt_val n 0 (n % 256) (by simp)) (by simp))
  have HB2 := Lib.hid (HB1.out.trans (HO1.out.grown (by have := HB1.out.size; omega) hgrow))
  clear hown' hgrow
  go_wp2
  rw [rounds_succ]
  go_wp2
  go_ret
  refine ⟨_, rfl, ?_, HB2.out⟩
  have := HO2.out
  simp only [List.append_assoc, List.cons_append, List.nil_append] at this
  exact this
set_option maxRecDepth 1000000 in
set_option maxHeartbeats 6400000 in
theorem appendNumber_8 (n : Int) (v : Value) (l : List UInt8) (base : Nat) (w : World) (hown : OwnB w base v l) (hl : l.length ≤ 1000000000) (hb : base ≤ w.heap.size) :
    Calls Try.prog 49 #[v, .int .i64 8, .int .i64 n] w fun e w' => ∃ v', e = .returned v' ∧ OwnB w' base v' (l ++ beN 8 n) ∧ Kept base w w' := by
  obtain ⟨i0, hi, hz0, hz1, hz2⟩ := info_parts Try.info5
  have HBE := Lib.hid (Kept.refl base w)
  have HO := Lib.hid hown
  clear hown
  go_enter Try.func49, Try.ntmps49
  go_wp2
  refine wp_loop_rounds 9 ?_
  rw [rounds_succ]
  go_wp2_with (at_builtin; refine wpList_append_own _ rfl (.tmp 14) (.tmp 20) 49 rfl base 5 i0 (.int .u8 0) 1 1 Try.underlying49 hi hz0 hz1 hz2 rfl (by decide) _ _ _ rfl (HO.out.app.alloc _) ⟨w.heap.size, 0, none⟩ 1 1 [.int .u8 (n / 72057594037927936 % 256)] rfl rfl ?a7 ?b7 ?c7 ?d7 ?e7 ?_)
  case a7 => exact new_cells w [.int .u8 (n / 72057594037927936 % 256)] 5
  case b7 => exact int_cells .u8 [(n / 72057594037927936 % 256)]
  case c7 => unfold maxLen; first | omega | (simp only [List.length_append, List.length_cons, List.length_nil]; omega)
  case d7 => first | omega | (simp only [List.length_append, List.length_cons, List.length_nil]; omega)
  case e7 => simp; omega
  intro v1 w1 hown' hgrow _
  have HO1 := Lib.hid (OwnB.more hown' (byteAt_val n 7 (n / 72057594037927936 % 256) (by simp)) (by simp))
  have HB1 := Lib.hid (HBE.out.trans (HO.out.grown (by omega) hgrow))
  clear hown' hgrow
  go_wp2
  rw [rounds_succ]
  go_wp2_with (at_builtin; refine wpList_append_own _ rfl (.tmp 14) (.tmp 20) 49 rfl base 5 i0 (.int .u8 0) 1 1 Try.underlying49 hi hz0 hz1 hz2 rfl (by decide) _ _ _ rfl (HO1.out.app.alloc _) ⟨w1.heap.size, 0, none⟩ 1 1 [.int .u8 (n / 281474976710656 % 256)] rfl rfl ?a6 ?b6 ?c6 ?d6 ?e6 ?_)
  case a6 => exact new_cells w1 [.int .u8 (n / 281474976710656 % 256)] 5
  case b6 => exact int_cells .u8 [(n / 281474976710656 % 256)]
  case c6 => unfold maxLen; first | omega | (simp only [List.length_append, List.length_cons, List.length_nil]; omega)
  case d6 => first | omega | (simp only [List.length_append, List.length_cons, List.length_nil]; omega)
  case e6 => simp; have := HB1.out.size; omega
  intro v2 w2 hown' hgrow _
  have HO2 := Lib.hid (OwnB.more hown' (byteAt_val n 6 (n / 281474976710656 % 256) (by simp)) (by simp))
  have HB2 := Lib.hid (HB1.out.trans (HO1.out.grown (by have := HB1.out.size; omega) hgrow))
  clear hown' hgrow
  go_wp2
  rw [rounds_succ]
  go_wp2_with (at_builtin; refine wpList_append_own _ rfl (.tmp 14) (.tmp 20) 49 rfl base 5 i0 (.int .u8 0) 1 1 Try.underlying49 hi hz0 hz1 hz2 rfl (by decide) _ _ _ rfl (HO2.out.app.alloc _) ⟨w2.heap.size, 0, none⟩ 1 1 [.int .u8 (n / 1099511627776 % 256)] rfl rfl ?a5 ?b5 ?c5 ?d5 ?e5 ?_)
  case a5 => exact new_cells w2 [.int .u8 (n / 1099511627776 % 256)] 5
  case b5 => exact int_cells .u8 [(n / 1099511627776 % 256)]
  case c5 => unfold maxLen; first | omega | (simp only [List.length_append, List.length_cons, List.length_nil]; omega)
  case d5 => first | omega | (simp only [List.length_append, List.length_cons, List.length_nil]; omega)
  case e5 => simp; have := HB2.out.size; omega
  intro v3 w3 hown' hgrow _
  have HO3 := Lib.hid (OwnB.more hown' (byteAt_val n 5 (n / 1099511627776 % 256) (by simp)) (by simp))
  have HB3 := Lib.hid (HB2.out.trans (HO2.out.grown (by have := HB2.out.size; omega) hgrow))
  clear hown' hgrow
  go_wp2
  rw [rounds_succ]
  go_wp2_with (at_builtin; refine wpList_append_own _ rfl (.tmp 14) (.tmp 20) 49 rfl base 5 i0 (.int .u8 0) 1 1 Try.underlying49 hi hz0 hz1 hz2 rfl (by decide) _ _ _ rfl (HO3.out.app.alloc _) ⟨w3.heap.size, 0, none⟩ 1 1 [.int .u8 (n / 4294967296 % 256)] rfl rfl ?a4 ?b4 ?c4 ?d4 ?e4 ?_)
  case a4 => exact new_cells w3 [.int .u8 (n / 4294967296 % 256)] 5
  case b4 => exact int_cells .u8 [(n / 4294967296 % 256)]
  case c4 => unfold maxLen; first | omega | (simp only [List.length_append, List.length_cons, List.length_nil]; omega)
  case d4 => first | omega | (simp only [List.length_append, List.length_cons, List.length_nil]; omega)
  case e4 => simp; have := HB3.out.size; omega
  intro v4 w4 hown' hgrow _
  have HO4 := Lib.hid (OwnB.more hown' (byteAt_val n 4 (n / 4294967296 % 256) (by simp)) (by simp))
  have HB4 := Lib.hid (HB3.out.trans (HO3.out.grown (by have := HB3.out.size; omega) hgrow))
  clear hown' hgrow
  go_wp2
  rw [rounds_succ]
  go_wp2_with (at_builtin; refine wpList_append_own _ rfl (.tmp 14) (.tmp 20) 49 rfl base 5 i0 (.int .u8 0) 1 1 Try.underlying49 hi hz0 hz1 hz2 rfl (by decide) _ _ _ rfl (HO4.out.app.alloc _) ⟨w4.heap.size, 0, none⟩ 1 1 [.int .u8 (n / 16777216 % 256)] rfl rfl ?a3 ?b3 ?c3 ?d3 ?e3 ?_)
  case a3 => exact new_cells w4 [.int .u8 (n / 16777216 % 256)] 5
  case b3 => exact int_cells .u8 [(n / 16777216 % 256)]
  case c3 => unfold maxLen; first | omega | (simp only [List.length_append, List.length_cons, List.length_nil]; omega)
  case d3 => first | omega | (simp only [List.length_append, List.length_cons, List.length_nil]; omega)
  case e3 => simp; have := HB4.out.size; omega
  intro v5 w5 hown' hgrow _
  have HO5 := Lib.hid (OwnB.more hown' (byteAt_val n 3 (n / 16777216 % 256) (by simp)) (by simp))
  have HB5 := Lib.hid (HB4.out.trans (HO4.out.grown (by have := HB4.out.size; omega) hgrow))
  clear hown' hgrow
  go_wp2
  rw [rounds_succ]
  go_wp2_with (at_builtin; refine wpList_append_own _ rfl (.tmp 14) (.tmp 20) 49 rfl base 5 i0 (.int .u8 0) 1 1 Try.underlying49 hi hz0 hz1 hz2 rfl (by decide) _ _ _ rfl (HO5.out.app.alloc _) ⟨w5.heap.size, 0, none⟩ 1 1 [.int .u8 (n / 65536 % 256)] rfl rfl ?a2 ?b2 ?c2 ?d2 ?e2 ?_)
  case a2 => exact new_cells w5 [.int .u8 (n / 65536 % 256)] 5
  case b2 => exact int_cells .u8 [(n / 65536 % 256)]
  case c2 => unfold maxLen; first | omega | (simp only [List.length_append, List.length_cons, List.length_nil]; omega)
  case d2 => first | omega | (simp only [List.length_append, List.length_cons, List.length_nil]; omega)
  case e2 => simp; have := HB5.out.size; omega
  intro v6 w6 hown' hgrow _
  have HO6 := Lib.hid (OwnB.more hown' (byteAt_val n 2 (n / 65536 % 256) (by simp)) (by simp))
  have HB6 := Lib.hid (HB5.out.trans (HO5.out.grown (by have := HB5.out.size; omega) hgrow))
  clear hown' hgrow
  go_wp2
  rw [rounds_succ]
  go_wp2_with (at_builtin; refine wpList_append_own _ rfl (.tmp 14) (.tmp 20) 49 rfl base 5 i0 (.int .u8 0) 1 1 Try.underlying49 hi hz0 hz1 hz2 rfl (by decide) _ _ _ rfl (HO6.out.app.alloc _) ⟨w6.heap.size, 0, none⟩ 1 1 [.int .u8 (n / 256 % 256)] rfl rfl ?a1 ?b1 ?c1 ?d1 ?e1 ?_)
  case a1 => exact new_cells w6 [.int .u8 (n / 256 % 256)] 5
  case b1 => exact int_cells .u8 [(n / 256 % 256)]
  case c1 => unfold maxLen; first | omega | (simp only [List.length_append, List.length_cons, List.length_nil]; omega)
  case d1 => first | omega | (simp only [List.length_append, List.length_cons, List.length_nil]; omega)
  case e1 => simp; have := HB6.out.size; omega
  intro v7 w7 hown' hgrow _
  have HO7 := Lib.hid (OwnB.more hown' (byteAt_val n 1 (n / 256 % 256) (by simp)) (by simp))
  have HB7 := Lib.hid (HB6.out.trans (HO6.out.grown (by have := HB6.out.size; omega) hgrow))
  clear hown' hgrow
  go_wp2
  rw [rounds_succ]
  go_wp2_with (at_builtin; refine wpList_append_own _ rfl (.tmp 14) (.tmp 20) 49 rfl base 5 i0 (.int .u8 0) 1 1 Try.underlying49 hi hz0 hz1 hz2 rfl (by decide) _ _ _ rfl (HO7.out.app.alloc _) ⟨w7.heap.size, 0, none⟩ 1 1 [.int .u8 (n % 256)] rfl rfl ?a0 ?b0 ?c0 ?d0 ?e0 ?_)
  case a0 => exact new_cells w7 [.int .u8 (n % 256)] 5
  case b0 => exact int_cells .u8 [(n % 256)]
  case c0 => unfold maxLen; first | omega | (simp only [List.length_append, List.length_cons, List.length_nil]; omega)
  case d0 => first | omega | (simp only [List.length_append, List.length_cons, List.length_nil]; omega)
  case e0 => simp; have := HB7.out.size; omega
  intro v8 w8 hown' hgrow _
  have HO8 := Lib.hid (OwnB.more hown' (byteAt_val n 0 (n % 256) (by simp)) (by simp))
  have HB8 := Lib.hid (HB7.out.trans (HO7.out.grown (by have := HB7.out.size; omega) hgrow))
  clear hown' hgrow
  go_wp2
  rw [rounds_succ]
  go_wp2
  go_ret
  refine ⟨_, rfl, ?_, HB8.out⟩
  have := HO8.out
  simp only [List.append_assoc, List.cons_append, List.nil_append] at this
  exact this
end Go.Proofs.Ytcgloepfnnfioaa
