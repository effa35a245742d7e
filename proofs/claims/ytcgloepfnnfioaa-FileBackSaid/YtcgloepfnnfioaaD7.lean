/-
  PRUNED by wip/tools/prunem.py: what these texts need of an earlier stage's.
-/
import Derived.Test.YtcgloepfnnfioaaD6
import Derived.Deep.LoopGhost
import Derived.RegionTactic
import Derived.BigRegion
set_option linter.unusedVariables false
set_option linter.unusedSimpArgs false
namespace Go.Proofs.Ytcgloepfnnfioaa
open Go.RowKit

theorem cells_setCell {w : World} {b i : Nat} {cs : Array Value} {u : Value} {t : TypeId} (h : w.heap[b]? = some (.cells cs t (0, 0))) : (w.setCell ⟨b, i, none⟩ u).heap[b]? = some (.cells (cs.setIfInBounds i u) t (0, 0)) := by
  have hlt := lt_of_block h
  have h' : w.heap[b] = .cells cs t (0, 0) := by simpa [Array.getElem?_eq_getElem hlt] using h
  show (w.heap.modify b _)[b]? = _
  rw [Array.getElem?_eq_getElem (by simpa using hlt), Array.getElem_modify_self, h']
  rfl
theorem drew_heap {w : World} {b : Nat} {o : Obj} (h : w.heap[b]? = some o) : w.drew.heap[b]? = some o := h
/-- The cells of a row of types. -/
def tcells (xs : List Ty) : List Value := xs.flatMap fun p => [.int .i64 p.1, .string (mkB p.2)]
theorem tcells_append (a b : List Ty) : tcells (a ++ b) = tcells a ++ tcells b := by simp [tcells]
theorem tcells_one (p : Ty) : tcells [p] = [.int .i64 p.1, .string (mkB p.2)] := rfl
theorem Try.info98 : (Try.prog.info? 98).map (fun i => (i.zero, i.size, i.bytes)) = some (some (.agg #[.int .i64 0, .string ⟨#[]⟩]), 2, 24) := by kernel_rfl
/-- What 'Method' answers: the arguments, what is returned, is it void, the error. -/
def res : Option (List Ty × Option Ty) → List Ty × Ty × Bool × Int
  | none => ([], (0, []), false, 9)
  | some (xs, q) => if xs.length ≤ 16 then (xs, q.getD (0, []), q.isNone, 0) else ([], (0, []), false, 3)
def sgV (v : Value) (x : List Ty × Ty × Bool × Int) : Value := .tuple #[.agg #[v, .int .i64 x.2.1.1, .string (mkB x.2.1.2), .bool x.2.2.1], .int .i64 x.2.2.2]
theorem res_none : res none = ([], (0, []), false, 9) := rfl
/-- At the head of the loop: the texts before and behind the piece that was read, the arguments so far. -/
structure Loop (l l0 : List UInt8) (done : List Ty) : Prop where
  all : args l = (done ++ (args l0).1, (args l0).2)
theorem Loop.start (l : List UInt8) : Loop l l [] := ⟨by simp⟩
theorem Loop.next {l l0 : List UInt8} {done : List Ty} {p : Ty} (h : Loop l l0 done) (hf : firstL l0 = some p) : Loop l (l0.drop (tlen p)) (done ++ [p]) :=
  ⟨by rw [h.all, args_some hf]; simp⟩
theorem Loop.stop {l l0 : List UInt8} {done : List Ty} (h : Loop l l0 done) (hf : firstL l0 = none) : args l = (done, l0) := by
  rw [h.all, args_none hf]; simp
theorem drop_pos_cons {l : List UInt8} {c : UInt8} {t : List UInt8} (h : l = c :: t) : l.drop 1 = t := by rw [h]; rfl
/-- What the pieces say of a text. -/
theorem meth_open {l : List UInt8} (h : (pieceL l).1 ≠ 2) : methL l = none := by
  unfold methL
  split
  · exact absurd rfl h
  · rfl
theorem open_cons {l : List UInt8} (h : (pieceL l).1 = 2) : (pieceL l).2.2 = 1 ∧ ∃ t, l = 40 :: t := by
  cases l with
  | nil => exact absurd h (by decide)
  | cons c t =>
    cases hf : firstL (c :: t) with
    | some p => rw [pieceL_type hf] at h; simp at h
    | none =>
      rw [pieceL_cons, hf] at h ⊢
      by_cases h1 : c = 40
      · subst h1; exact ⟨rfl, t, rfl⟩
      · rw [if_neg h1] at h
        split at h
        · simp at h
        split at h <;> simp at h
theorem close_cons {l : List UInt8} (h : (pieceL l).1 = 3) : (pieceL l).2.2 = 1 ∧ ∃ t, l = 41 :: t := by
  cases l with
  | nil => exact absurd h (by decide)
  | cons c t =>
    cases hf : firstL (c :: t) with
    | some p => rw [pieceL_type hf] at h; simp at h
    | none =>
      rw [pieceL_cons, hf] at h ⊢
      by_cases h1 : c = 40
      · subst h1; simp at h
      rw [if_neg h1] at h ⊢
      by_cases h2 : c = 41
      · subst h2; exact ⟨rfl, t, rfl⟩
      · rw [if_neg h2] at h
        split at h <;> simp at h
theorem void_cons {l : List UInt8} (h : (pieceL l).1 = 4) : (pieceL l).2.2 = 1 ∧ (pieceL l).2.1 = (0, []) ∧ ∃ t, l = 86 :: t := by
  cases l with
  | nil => exact absurd h (by decide)
  | cons c t =>
    cases hf : firstL (c :: t) with
    | some p => rw [pieceL_type hf] at h; simp at h
    | none =>
      rw [pieceL_cons, hf] at h ⊢
      by_cases h1 : c = 40
      · subst h1; simp at h
      rw [if_neg h1] at h ⊢
      by_cases h2 : c = 41
      · subst h2; simp at h
      rw [if_neg h2] at h ⊢
      by_cases h3 : c = 86
      · subst h3; exact ⟨rfl, rfl, t, rfl⟩
      · rw [if_neg h3] at h; simp at h
theorem type_of {l : List UInt8} (h : (pieceL l).1 = 5) : ∃ p, firstL l = some p ∧ pieceL l = (5, p, tlen p) := by
  cases hf : firstL l with
  | some p => exact ⟨p, rfl, pieceL_type hf⟩
  | none => exact absurd h (pieceL_none hf).1
/-- The end of a signature: 'l' begins with the piece behind the arguments. -/
theorem sig_noclose {xs : List Ty} {l : List UInt8} (h : (pieceL l).1 ≠ 3) : sigR (xs, l) = none := by
  unfold sigR
  split
  · rename_i heq
    obtain ⟨_, rfl⟩ := Prod.mk.inj heq
    exact absurd rfl h
  · rfl
theorem sig_close {xs : List Ty} {l : List UInt8} (h : (pieceL l).1 = 3) : sigR (xs, l) = (retL (l.drop 1)).map fun q => (xs, q) := by
  obtain ⟨_, t, rfl⟩ := close_cons h
  rfl
theorem ret_void {l : List UInt8} (h : (pieceL l).1 = 4) : retL l = if l.drop 1 = [] then some none else none := by
  obtain ⟨_, _, t, rfl⟩ := void_cons h
  unfold retL
  cases t with
  | nil => rfl
  | cons c t =>
    have hf : fieldL (86 :: c :: t) = none := by
      unfold fieldL
      have : firstL (86 :: c :: t) = none := by
        cases hf : firstL (86 :: c :: t) with
        | none => rfl
        | some p => exact absurd (firstL_head hf) (by decide)
      rw [this]
    rw [if_neg (by simp), if_neg (by simp), hf]
    rfl
theorem ret_type {l : List UInt8} {p : Ty} (h : firstL l = some p) : retL l = if l.drop (tlen p) = [] then some (some p) else none := by
  have hne : l ≠ [86] := by rintro rfl; exact absurd (firstL_head h) (by decide)
  have hl := firstL_len h
  unfold retL fieldL
  rw [if_neg hne, h]
  simp only [List.drop_eq_nil_iff]
  by_cases hh : tlen p = l.length
  · rw [if_pos hh, if_pos (by omega)]; rfl
  · rw [if_neg hh, if_neg (by omega)]; rfl
theorem ret_other {l : List UInt8} (h4 : (pieceL l).1 ≠ 4) (h5 : (pieceL l).1 ≠ 5) : retL l = none := by
  have hf : firstL l = none := by
    cases hf : firstL l with
    | none => rfl
    | some p => rw [pieceL_type hf] at h5; exact absurd rfl h5
  have hne : l ≠ [86] := by rintro rfl; exact h4 rfl
  unfold retL fieldL
  rw [if_neg hne, hf]
  rfl
end Go.Proofs.Ytcgloepfnnfioaa
