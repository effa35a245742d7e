/-
  WALKS of what is added to bytes: numbers of one and of two bytes.
-/
import Derived.Test.YtjdaaecbnhcoaaaDoorK13
import Derived.Deep.LoopGhost
import Derived.Deep.DeepCutAuto
set_option linter.unusedVariables false
set_option linter.unusedSimpArgs false
namespace Go.Proofs.YtjdaaecbnhcoaaaDoor
open Go.RowKit

def bcells (l : List UInt8) : List Value := l.map fun c => .int .u8 c.toNat
theorem bcells_append (a b : List UInt8) : bcells (a ++ b) = bcells a ++ bcells b := by simp [bcells]
/-- The slice value v is the call's own row of the bytes l. -/
def OwnB (w : World) (base : Nat) (v : Value) (l : List UInt8) : Prop := w.ownsRow base 5 1 v l.length (bcells l)
def byteAt (n : Int) (i : Nat) : UInt8 := UInt8.ofNat (n / 256 ^ i % 256).toNat
def beN : Nat → Int → List UInt8
  | 0, _ => []
  | k + 1, n => byteAt n k :: beN k n
theorem beN_length : ∀ (k : Nat) (n : Int), (beN k n).length = k
  | 0, _ => rfl
  | k + 1, n => by rw [beN, List.length_cons, beN_length k n]
theorem byteAt_val (n : Int) (i : Nat) (q : Int) (h : n / 256 ^ i % 256 = q) : bcells [byteAt n i] = [.int .u8 q] := by
  have h0 : 0 ≤ n / 256 ^ i % 256 := Int.emod_nonneg _ (by decide)
  have h1 : n / 256 ^ i % 256 < 256 := Int.emod_lt_of_pos _ (by decide)
  unfold bcells byteAt
  simp only [List.map_cons, List.map_nil, List.cons.injEq, and_true, Value.int.injEq, true_and]
  rw [UInt8.toNat_ofNat']
  omega
theorem OwnB.more {w : World} {base : Nat} {v : Value} {l m : List UInt8} {c : Value} {N : Nat} (h : w.ownsRow base 5 1 v N (bcells l ++ [c])) (hm : bcells m = [c]) (hN : N = l.length + 1) : OwnB w base v (l ++ m) := by
  unfold OwnB
  have : m.length = 1 := by
    have := congrArg List.length hm
    simpa [bcells] using this
  rw [List.length_append, this, bcells_append, hm, ← hN]
  exact h
theorem OwnB.app {w : World} {base : Nat} {v : Value} {l : List UInt8} (h : OwnB w base v l) : w.ownsRow base 5 1 v l.length (bcells l) := h
theorem OwnB.nil (w : World) (base : Nat) : OwnB w base (.slice none 0 0) [] := World.ownsRow_nil _ _ _ _
theorem OwnB.below {w w' : World} {base : Nat} {v : Value} {l : List UInt8} (h : OwnB w base v l) (hb : Below w.heap.size w w') : OwnB w' base v l := own_below h hb
theorem OwnB.alloc {w : World} {base : Nat} {v : Value} {l : List UInt8} (h : OwnB w base v l) (o : Obj) : OwnB (w.alloc o) base v l := World.ownsRow.alloc h o
theorem OwnB.slice {w : World} {base : Nat} {v : Value} {l : List UInt8} (h : OwnB w base v l) : ∃ a c, v = .slice a l.length c := own_form h
theorem OwnB.grown {w w' : World} {base : Nat} {v : Value} {l : List UInt8} {o : Obj} (h : OwnB w base v l) (hb : base ≤ w.heap.size) (hg : (w.alloc o).grownBy w' v.ownBlock) : Kept 5 base w w' :=
  ((Kept.refl 5 base w).alloc hb o).trans (own_grown (h.alloc o) (by simp; omega) hg)
theorem info5 : ∃ i, Tryd.prog.info? 5 = some i ∧ i.zero = some (.int .u8 0) ∧ i.size = 1 ∧ i.bytes = 1 := info_parts (by kernel_rfl)
def numsN (k : Nat) (is : List Int) : List UInt8 := is.flatMap (beN k)
theorem numsN_length (k : Nat) (is : List Int) : (numsN k is).length = k * is.length := by
  induction is with
  | nil => simp [numsN]
  | cons x r ih =>
    have : numsN k (x :: r) = beN k x ++ numsN k r := rfl
    rw [this, List.length_append, beN_length, ih, List.length_cons, Nat.mul_succ]
    omega
theorem numsN_next {k : Nat} {is : List Int} {i : Nat} {x : Int} (hx : is[i]? = some x) : numsN k (is.take (i + 1)) = numsN k (is.take i) ++ beN k x := by
  obtain ⟨hk, rfl⟩ := List.getElem?_eq_some_iff.1 hx
  unfold numsN
  rw [List.take_succ_eq_append_getElem hk, List.flatMap_append]
  simp
set_option maxRecDepth 1000000 in
set_option maxHeartbeats 6400000 in
theorem write_1 (is : List Int) (hn : is.length ≤ 1000) (I : Nat) (v : Value) (l : List UInt8) (base : Nat) (w : World) (hI : w.heap[I]? = some (.cells (icells is).toArray 3 (0, 0))) (hown : OwnB w base v l) (hl : l.length ≤ 100000000) (hb : base ≤ w.heap.size) :
    Calls Tryd.prog 49 #[v, .int .i64 1, .slice (some ⟨I, 0, none⟩) is.length is.length] w fun e w' => ∃ v', e = .returned v' ∧ OwnB w' base v' (l ++ numsN 1 is) ∧ Kept 5 base w w' := by
  obtain ⟨i0, hi, hz0, hz1, hz2⟩ := info5
  have HO := Lib.hid hown
  have HI := Lib.hid hI
  have HX := Lib.hid (show ∀ (W : World), W.heap[I]? = some (.cells (icells is).toArray 3 (0, 0)) → ∀ k x, is[k]? = some x → W.cell? ⟨I, k, none⟩ = some (.int .i64 x) from fun W h k x hx => by
    rw [cells_of h k]
    unfold icells
    simp [hx])
  clear hown hI
  go_enter Tryd.func49, Tryd.ntmps49
  go_wp2
  go_loopg [0, 12] is.length (fun g bv iv wx => ∃ k : Nat, iv = .int .i64 k ∧ k + g = is.length ∧ OwnB wx base bv (l ++ numsN 1 (is.take k)) ∧ wx.heap[I]? = some (.cells (icells is).toArray 3 (0, 0)) ∧ Kept 5 base w wx)
  case atStart => exact ⟨0, rfl, by omega, by simp [numsN]; exact HO.out, HI.out, Kept.refl _ _ _⟩
  case round =>
    obtain ⟨k, rfl, hkg, hown, hi', hk⟩ := hrel
    have HO1 := Lib.hid hown
    have HI1 := Lib.hid hi'
    have HK1 := Lib.hid hk
    have hsz := hk.size
    clear hown hi' hk
    by_cases hlt : k < is.length
    · have hgg : gk - 1 < gk := by omega
      obtain ⟨x, hx⟩ : ∃ x, is[k]? = some x := ⟨_, List.getElem?_eq_getElem hlt⟩
      have x0 := HX.out _ HI1.out k x hx
      have HN := Lib.hid (numsN_next (k := 1) hx)
      have hll : (l ++ numsN 1 (is.take k)).length ≤ 100002000 := by rw [List.length_append, numsN_length, List.length_take]; omega
      obtain ⟨m, hm⟩ : ∃ m, l ++ numsN 1 (is.take k) = m := ⟨_, rfl⟩
      rw [hm] at HO1 hll
      have HM := Lib.hid hm
      clear hx hm
      go_wp2
      refine wp_loop_rounds 2 ?_
      rw [rounds_succ]
      go_wp2_with (at_builtin; refine wpList_append_own _ rfl (.tmp 22) (.tmp 28) 46 rfl base 5 i0 (.int .u8 0) 1 1 Tryd.underlying46 hi hz0 hz1 hz2 rfl (by decide) _ _ _ rfl (HO1.out.app.alloc _) ⟨_, 0, none⟩ 1 1 [.int .u8 (x % 256)] rfl rfl ?a1 ?b1 ?c1 ?d1 ?e1 ?_)
      case a1 => exact new_at _ [.int .u8 (x % 256)] 5 _ rfl
      case b1 => exact int_cells .u8 [(x % 256)]
      case c1 => unfold maxLen; first | omega | (simp only [List.length_append, List.length_cons, List.length_nil] at *; omega)
      case d1 => first | omega | (simp only [List.length_append, List.length_cons, List.length_nil] at *; omega)
      case e1 => simp; omega
      intro v1 w1 hown' hgrow _
      have HB1 := Lib.hid (HO1.out.grown (by have := HK1.out.size; omega) hgrow)
      have HO2 := Lib.hid (OwnB.more hown' (byteAt_val x 0 (x % 256) (by simp)) (by simp))
      have HK2 := Lib.hid (HK1.out.trans HB1.out)
      have hs2 := HB1.out.size
      clear hown' hgrow
      go_wp2
      rw [rounds_succ]
      go_wp2
      go_roundg (gk - 1)
      case measure => exact hgg
      case rel => exact ⟨k + 1, by go_num, by omega, by rw [HN.out, ← List.append_assoc, HM.out]; simpa [beN, List.append_assoc] using HO2.out, (HB1.out.other _ _ _ _ (by decide) (HI1.out)), HK2.out⟩
    · have HF := Lib.hid (show OwnB wr base _ (l ++ numsN 1 is) by have := HO1.out; rwa [List.take_of_length_le (by omega)] at this)
      go_wp2
      go_ret
      exact ⟨_, rfl, HF.out, HK1.out⟩
set_option maxRecDepth 1000000 in
set_option maxHeartbeats 6400000 in
theorem write_2 (is : List Int) (hn : is.length ≤ 1000) (I : Nat) (v : Value) (l : List UInt8) (base : Nat) (w : World) (hI : w.heap[I]? = some (.cells (icells is).toArray 3 (0, 0))) (hown : OwnB w base v l) (hl : l.length ≤ 100000000) (hb : base ≤ w.heap.size) :
    Calls Tryd.prog 49 #[v, .int .i64 2, .slice (some ⟨I, 0, none⟩) is.length is.length] w fun e w' => ∃ v', e = .returned v' ∧ OwnB w' base v' (l ++ numsN 2 is) ∧ Kept 5 base w w' := by
  obtain ⟨i0, hi, hz0, hz1, hz2⟩ := info5
  have HO := Lib.hid hown
  have HI := Lib.hid hI
  have HX := Lib.hid (show ∀ (W : World), W.heap[I]? = some (.cells (icells is).toArray 3 (0, 0)) → ∀ k x, is[k]? = some x → W.cell? ⟨I, k, none⟩ = some (.int .i64 x) from fun W h k x hx => by
    rw [cells_of h k]
    unfold icells
    simp [hx])
  clear hown hI
  go_enter Tryd.func49, Tryd.ntmps49
  go_wp2
  go_loopg [0, 12] is.length (fun g bv iv wx => ∃ k : Nat, iv = .int .i64 k ∧ k + g = is.length ∧ OwnB wx base bv (l ++ numsN 2 (is.take k)) ∧ wx.heap[I]? = some (.cells (icells is).toArray 3 (0, 0)) ∧ Kept 5 base w wx)
  case atStart => exact ⟨0, rfl, by omega, by simp [numsN]; exact HO.out, HI.out, Kept.refl _ _ _⟩
  case round =>
    obtain ⟨k, rfl, hkg, hown, hi', hk⟩ := hrel
    have HO1 := Lib.hid hown
    have HI1 := Lib.hid hi'
    have HK1 := Lib.hid hk
    have hsz := hk.size
    clear hown hi' hk
    by_cases hlt : k < is.length
    · have hgg : gk - 1 < gk := by omega
      obtain ⟨x, hx⟩ : ∃ x, is[k]? = some x := ⟨_, List.getElem?_eq_getElem hlt⟩
      have x0 := HX.out _ HI1.out k x hx
      have HN := Lib.hid (numsN_next (k := 2) hx)
      have hll : (l ++ numsN 2 (is.take k)).length ≤ 100002000 := by rw [List.length_append, numsN_length, List.length_take]; omega
      obtain ⟨m, hm⟩ : ∃ m, l ++ numsN 2 (is.take k) = m := ⟨_, rfl⟩
      rw [hm] at HO1 hll
      have HM := Lib.hid hm
      clear hx hm
      go_wp2
      refine wp_loop_rounds 3 ?_
      rw [rounds_succ]
      go_wp2_with (at_builtin; refine wpList_append_own _ rfl (.tmp 22) (.tmp 28) 46 rfl base 5 i0 (.int .u8 0) 1 1 Tryd.underlying46 hi hz0 hz1 hz2 rfl (by decide) _ _ _ rfl (HO1.out.app.alloc _) ⟨_, 0, none⟩ 1 1 [.int .u8 (x / 256 % 256)] rfl rfl ?a1 ?b1 ?c1 ?d1 ?e1 ?_)
      case a1 => exact new_at _ [.int .u8 (x / 256 % 256)] 5 _ rfl
      case b1 => exact int_cells .u8 [(x / 256 % 256)]
      case c1 => unfold maxLen; first | omega | (simp only [List.length_append, List.length_cons, List.length_nil] at *; omega)
      case d1 => first | omega | (simp only [List.length_append, List.length_cons, List.length_nil] at *; omega)
      case e1 => simp; omega
      intro v1 w1 hown' hgrow _
      have HB1 := Lib.hid (HO1.out.grown (by have := HK1.out.size; omega) hgrow)
      have HO2 := Lib.hid (OwnB.more hown' (byteAt_val x 1 (x / 256 % 256) (by simp)) (by simp))
      have HK2 := Lib.hid (HK1.out.trans HB1.out)
      have hs2 := HB1.out.size
      clear hown' hgrow
      go_wp2
      rw [rounds_succ]
      go_wp2_with (at_builtin; refine wpList_append_own _ rfl (.tmp 22) (.tmp 28) 46 rfl base 5 i0 (.int .u8 0) 1 1 Tryd.underlying46 hi hz0 hz1 hz2 rfl (by decide) _ _ _ rfl (HO2.out.app.alloc _) ⟨_, 0, none⟩ 1 1 [.int .u8 (x % 256)] rfl rfl ?a2 ?b2 ?c2 ?d2 ?e2 ?_)
      case a2 => exact new_at _ [.int .u8 (x % 256)] 5 _ rfl
      case b2 => exact int_cells .u8 [(x % 256)]
      case c2 => unfold maxLen; first | omega | (simp only [List.length_append, List.length_cons, List.length_nil] at *; omega)
      case d2 => first | omega | (simp only [List.length_append, List.length_cons, List.length_nil] at *; omega)
      case e2 => simp; omega
      intro v2 w2 hown' hgrow _
      have HB2 := Lib.hid (HO2.out.grown (by have := HK2.out.size; omega) hgrow)
      have HO3 := Lib.hid (OwnB.more hown' (byteAt_val x 0 (x % 256) (by simp)) (by simp))
      have HK3 := Lib.hid (HK2.out.trans HB2.out)
      have hs3 := HB2.out.size
      clear hown' hgrow
      go_wp2
      rw [rounds_succ]
      go_wp2
      go_roundg (gk - 1)
      case measure => exact hgg
      case rel => exact ⟨k + 1, by go_num, by omega, by rw [HN.out, ← List.append_assoc, HM.out]; simpa [beN, List.append_assoc] using HO3.out, (HB2.out.other _ _ _ _ (by decide) ((HB1.out.other _ _ _ _ (by decide) (HI1.out)))), HK3.out⟩
    · have HF := Lib.hid (show OwnB wr base _ (l ++ numsN 2 is) by have := HO1.out; rwa [List.take_of_length_le (by omega)] at this)
      go_wp2
      go_ret
      exact ⟨_, rfl, HF.out, HK1.out⟩
set_option maxHeartbeats 1600000 in
theorem bytes_any (n : Int) (w : World) : Calls Tryd.prog 40 #[.int .i64 n] w fun e w' => e = .returned (.slice (some ⟨w.heap.size, 0, none⟩) 2 2) ∧ w' = w.alloc (.cells #[.int .u8 (n / 256 % 256), .int .u8 (n % 256)] 5) := by
  go_enter Tryd.func40, Tryd.ntmps40
  go_wp2
  go_ret
  exact ⟨rfl, rfl⟩
end Go.Proofs.YtjdaaecbnhcoaaaDoor
