/-
  THE ARENA in memory.
-/
import Derived.Test.YtmgpimibnogcaaaPl
import Derived.WalkSpells
import Derived.WalkLawsBesides
import Derived.Below
import Derived.Lib.Hide
import Derived.Deep.Draws
import Derived.BigQuiet
import Derived.LoopN
import Derived.Deep.LoopGhost
set_option linter.unusedVariables false
set_option linter.unusedSimpArgs false
namespace Go.Proofs.Ytmgpimibnogcaaa
open Go.RowKit

theorem plain_add (b o j : Nat) : ({ block := b, off := o } : Addr).add j = ⟨b, o + j, none⟩ := by
  unfold Addr.add
  by_cases h : j = 0 <;> simp [h]
theorem lt_of_block {w : World} {b : Nat} {o : Obj} (h : w.heap[b]? = some o) : b < w.heap.size := (Array.getElem?_eq_some_iff.1 h).1
theorem cells_of {w : World} {b : Nat} {cs : Array Value} {t : TypeId} (h : w.heap[b]? = some (.cells cs t (0, 0))) (i : Nat) : w.cell? ⟨b, i, none⟩ = cs[i]? := by simp [World.cell?, h]
theorem free_of {w : World} {b : Nat} {cs : Array Value} {t : TypeId} (h : w.heap[b]? = some (.cells cs t (0, 0))) (i : Nat) : w.frozen? ⟨b, i, none⟩ = false := by simp [World.frozen?, h]
theorem heap_new (w : World) (o : Obj) : (w.alloc o).heap[w.heap.size]? = some o := by
  show (w.heap.push o)[w.heap.size]? = _
  simp
theorem heap_alloc_lt {w : World} {o : Obj} {k : Nat} {x : Obj} (h : w.heap[k]? = some x) : (w.alloc o).heap[k]? = some x := (Below.heap_alloc _ _ _ (lt_of_block h)).trans h
theorem heap_setCell_ne {w : World} {p : Addr} {u : Value} {k : Nat} {x : Option Obj} (hk : k ≠ p.block) (h : w.heap[k]? = x) : (w.setCell p u).heap[k]? = x := (Below.heap_setCell _ _ _ _ hk).trans h
theorem heap_set_eq {w : World} {b i : Nat} {u : Value} {cs : Array Value} {t : TypeId} {m : Nat × Nat} (h : w.heap[b]? = some (.cells cs t m)) : (w.setCell ⟨b, i, none⟩ u).heap[b]? = some (.cells (cs.setIfInBounds i u) t m) := by
  have hlt := lt_of_block h
  simp only [World.setCell, Array.getElem?_modify, h]
  simp
/-- Nothing but the blocks S is other than it was. -/
structure Upd (S : List Nat) (w w' : World) : Prop where
  os : w'.os = w.os
  tape : w'.tape = w.tape
  output : w'.output = w.output
  size : w.heap.size ≤ w'.heap.size
  block : ∀ k, k < w.heap.size → k ∉ S → w'.heap[k]? = w.heap[k]?
theorem Upd.refl (S : List Nat) (w : World) : Upd S w w := ⟨rfl, rfl, rfl, Nat.le_refl _, fun _ _ _ => rfl⟩
theorem Upd.trans {S : List Nat} {a b c : World} (h : Upd S a b) (k : Upd S b c) : Upd S a c := ⟨k.os.trans h.os, k.tape.trans h.tape, k.output.trans h.output, Nat.le_trans h.size k.size, fun i hi hn => (k.block i (Nat.lt_of_lt_of_le hi h.size) hn).trans (h.block i hi hn)⟩
theorem Upd.mono {S T : List Nat} {a b : World} (h : Upd S a b) (hs : ∀ x ∈ S, x ∈ T) : Upd T a b := ⟨h.os, h.tape, h.output, h.size, fun k hk hn => h.block k hk fun hx => hn (hs k hx)⟩
theorem Upd.of_below {S : List Nat} {w w' : World} (h : Below w.heap.size w w') : Upd S w w' := ⟨h.os, h.tape, h.output, h.size, fun k hk _ => h.block k hk⟩
theorem Upd.set {S : List Nat} {b i : Nat} {w : World} {u : Value} (hb : b ∈ S) : Upd S w (w.setCell ⟨b, i, none⟩ u) := ⟨rfl, rfl, rfl, by simp [World.setCell], fun k _ hk => Below.heap_setCell _ _ _ _ (fun e => hk (by rw [e]; exact hb))⟩
theorem Upd.drewN {S : List Nat} {a w : World} (h : Upd S a w) (n : Nat) : Upd S a (w.drewN n) := ⟨h.os, h.tape, h.output, h.size, h.block⟩
def icells (l : List Int) : List Value := l.map fun (r : Int) => .int .i64 r
def bcells (l : List Bk) : List Value := l.flatMap fun b => [.int .i64 (b.ah : Int), .int .i64 (b.lf : Int), .int .i64 (b.rt : Int)]
def fcells (l : List Nat) : List Value := l.map fun (r : Nat) => .int .i64 (r : Int)
/-- The arena at block q, its words at block p, its blocks at block b. -/
structure AB (q p b : Nat) (ws : List Int) (bs : List Bk) (fr : List Nat) (w : World) : Prop where
  box : w.heap[q]? = some (.cells (([.slice (some ⟨p, 0, none⟩) ws.length ws.length, .slice (some ⟨b, 0, none⟩) ws.length ws.length] : List Value) ++ fcells fr).toArray 59 (0, 0))
  words : w.heap[p]? = some (.cells (icells ws).toArray 3 (0, 0))
  blocks : w.heap[b]? = some (.cells (bcells bs).toArray 62 (0, 0))
  bl : bs.length = ws.length
  n1 : 16 ≤ ws.length
  n2 : ws.length ≤ 1048576
  ne : q ≠ p ∧ q ≠ b ∧ p ≠ b
theorem bcells_at : ∀ (l : List Bk) (a : Nat) (x : Bk), l[a]? = some x → (bcells l)[3 * a]? = some (.int .i64 (x.ah : Int)) ∧ (bcells l)[3 * a + 1]? = some (.int .i64 (x.lf : Int)) ∧ (bcells l)[3 * a + 2]? = some (.int .i64 (x.rt : Int))
  | [], a, x, h => by simp at h
  | y :: l, 0, x, h => by
    simp only [List.getElem?_cons_zero, Option.some.injEq] at h
    subst h
    exact ⟨rfl, rfl, rfl⟩
  | y :: l, a + 1, x, h => by
    simp only [List.getElem?_cons_succ] at h
    have := bcells_at l a x h
    unfold bcells at this ⊢
    rw [List.flatMap_cons, show 3 * (a + 1) = 3 * a + 3 by omega]
    exact this
theorem bcells_set : ∀ (l : List Bk) (a : Nat) (x : Bk), l[a]? = some x → ∀ (v : Nat), (bcells l).set (3 * a) (.int .i64 (v : Int)) = bcells (l.set a ⟨v, x.lf, x.rt⟩) ∧ (bcells l).set (3 * a + 1) (.int .i64 (v : Int)) = bcells (l.set a ⟨x.ah, v, x.rt⟩) ∧ (bcells l).set (3 * a + 2) (.int .i64 (v : Int)) = bcells (l.set a ⟨x.ah, x.lf, v⟩)
  | [], a, x, h, _ => by simp at h
  | y :: l, 0, x, h, v => by
    simp only [List.getElem?_cons_zero, Option.some.injEq] at h
    subst h
    exact ⟨rfl, rfl, rfl⟩
  | y :: l, a + 1, x, h, v => by
    simp only [List.getElem?_cons_succ] at h
    obtain ⟨h1, h2, h3⟩ := bcells_set l a x h v
    unfold bcells at h1 h2 h3 ⊢
    rw [List.flatMap_cons, show 3 * (a + 1) = 3 * a + 3 by omega]
    refine ⟨?_, ?_, ?_⟩
    · exact congrArg (fun t => Value.int .i64 (y.ah : Int) :: Value.int .i64 (y.lf : Int) :: Value.int .i64 (y.rt : Int) :: t) h1
    · exact congrArg (fun t => Value.int .i64 (y.ah : Int) :: Value.int .i64 (y.lf : Int) :: Value.int .i64 (y.rt : Int) :: t) h2
    · exact congrArg (fun t => Value.int .i64 (y.ah : Int) :: Value.int .i64 (y.lf : Int) :: Value.int .i64 (y.rt : Int) :: t) h3
section
variable {q p b : Nat} {ws : List Int} {bs : List Bk} {fr : List Nat} {w w' : World}
theorem AB.lt (h : AB q p b ws bs fr w) : q < w.heap.size ∧ p < w.heap.size ∧ b < w.heap.size := ⟨lt_of_block h.box, lt_of_block h.words, lt_of_block h.blocks⟩
theorem AB.keep (h : AB q p b ws bs fr w) (hk : ∀ k, k = q ∨ k = p ∨ k = b → w'.heap[k]? = w.heap[k]?) : AB q p b ws bs fr w' :=
  ⟨(hk q (.inl rfl)).trans h.box, (hk p (.inr (.inl rfl))).trans h.words, (hk b (.inr (.inr rfl))).trans h.blocks, h.bl, h.n1, h.n2, h.ne⟩
theorem AB.below (h : AB q p b ws bs fr w) (hb : Below w.heap.size w w') : AB q p b ws bs fr w' := h.keep fun k hk => hb.block k (by obtain ⟨h1, h2, h3⟩ := h.lt; rcases hk with rfl | rfl | rfl <;> assumption)
theorem AB.drewN (h : AB q p b ws bs fr w) (n : Nat) : AB q p b ws bs fr (w.drewN n) := h.keep fun _ _ => rfl
theorem AB.box0 (h : AB q p b ws bs fr w) : w.cell? ⟨q, 0, none⟩ = some (.slice (some ⟨p, 0, none⟩) ws.length ws.length) := cells_of h.box 0
theorem AB.box1 (h : AB q p b ws bs fr w) : w.cell? ⟨q, 1, none⟩ = some (.slice (some ⟨b, 0, none⟩) ws.length ws.length) := cells_of h.box 1
theorem AB.top (h : AB q p b ws bs fr w) {c v : Nat} (hc : fr[c]? = some v) : w.cell? ⟨q, 2 + c, none⟩ = some (.int .i64 (v : Int)) := by
  rw [cells_of h.box, List.getElem?_toArray, show 2 + c = c + 1 + 1 by omega]
  show (fcells fr)[c]? = _
  unfold fcells
  rw [List.getElem?_map, hc]
  rfl
theorem AB.word (h : AB q p b ws bs fr w) {a : Nat} {v : Int} (hv : ws[a]? = some v) : w.cell? ⟨p, a, none⟩ = some (.int .i64 v) := by
  rw [cells_of h.words, List.getElem?_toArray]
  unfold icells
  rw [List.getElem?_map, hv]
  rfl
theorem AB.bk (h : AB q p b ws bs fr w) {a : Nat} {x : Bk} (hx : bs[a]? = some x) : w.cell? ⟨b, 3 * a, none⟩ = some (.int .i64 (x.ah : Int)) ∧ w.cell? ⟨b, 3 * a + 1, none⟩ = some (.int .i64 (x.lf : Int)) ∧ w.cell? ⟨b, 3 * a + 2, none⟩ = some (.int .i64 (x.rt : Int)) := by
  obtain ⟨h1, h2, h3⟩ := bcells_at bs a x hx
  refine ⟨?_, ?_, ?_⟩ <;> rw [cells_of h.blocks, List.getElem?_toArray] <;> assumption
theorem AB.frozen (h : AB q p b ws bs fr w) (i : Nat) : w.frozen? ⟨q, i, none⟩ = false ∧ w.frozen? ⟨p, i, none⟩ = false ∧ w.frozen? ⟨b, i, none⟩ = false := ⟨free_of h.box i, free_of h.words i, free_of h.blocks i⟩
theorem AB.set_word (h : AB q p b ws bs fr w) (a : Nat) (v : Int) : AB q p b (ws.set a v) bs fr (w.setCell ⟨p, a, none⟩ (.int .i64 v)) := by
  refine ⟨?_, ?_, heap_setCell_ne (fun e => h.ne.2.2 e.symm) h.blocks, by rw [List.length_set]; exact h.bl, by rw [List.length_set]; exact h.n1, by rw [List.length_set]; exact h.n2, h.ne⟩
  · rw [List.length_set]
    exact heap_setCell_ne h.ne.1 h.box
  · rw [heap_set_eq h.words]
    unfold icells
    rw [List.setIfInBounds_toArray, List.map_set]
theorem AB.set_lf (h : AB q p b ws bs fr w) {a : Nat} {x : Bk} (hx : bs[a]? = some x) (v : Nat) : AB q p b ws (bs.set a ⟨x.ah, v, x.rt⟩) fr (w.setCell ⟨b, 3 * a + 1, none⟩ (.int .i64 (v : Int))) := by
  refine ⟨heap_setCell_ne h.ne.2.1 h.box, heap_setCell_ne h.ne.2.2 h.words, ?_, by rw [List.length_set]; exact h.bl, h.n1, h.n2, h.ne⟩
  rw [heap_set_eq h.blocks, List.setIfInBounds_toArray, (bcells_set bs a x hx v).2.1]
theorem AB.set_rt (h : AB q p b ws bs fr w) {a : Nat} {x : Bk} (hx : bs[a]? = some x) (v : Nat) : AB q p b ws (bs.set a ⟨x.ah, x.lf, v⟩) fr (w.setCell ⟨b, 3 * a + 2, none⟩ (.int .i64 (v : Int))) := by
  refine ⟨heap_setCell_ne h.ne.2.1 h.box, heap_setCell_ne h.ne.2.2 h.words, ?_, by rw [List.length_set]; exact h.bl, h.n1, h.n2, h.ne⟩
  rw [heap_set_eq h.blocks, List.setIfInBounds_toArray, (bcells_set bs a x hx v).2.2]
theorem AB.set_ah (h : AB q p b ws bs fr w) {a : Nat} {x : Bk} (hx : bs[a]? = some x) (v : Nat) : AB q p b ws (bs.set a ⟨v, x.lf, x.rt⟩) fr (w.setCell ⟨b, 3 * a, none⟩ (.int .i64 (v : Int))) := by
  refine ⟨heap_setCell_ne h.ne.2.1 h.box, heap_setCell_ne h.ne.2.2 h.words, ?_, by rw [List.length_set]; exact h.bl, h.n1, h.n2, h.ne⟩
  rw [heap_set_eq h.blocks, List.setIfInBounds_toArray, (bcells_set bs a x hx v).1]
theorem AB.set_top (h : AB q p b ws bs fr w) (c v : Nat) : AB q p b ws bs (fr.set c v) (w.setCell ⟨q, 2 + c, none⟩ (.int .i64 (v : Int))) := by
  refine ⟨?_, heap_setCell_ne h.ne.1.symm h.words, heap_setCell_ne h.ne.2.1.symm h.blocks, h.bl, h.n1, h.n2, h.ne⟩
  rw [heap_set_eq h.box, List.setIfInBounds_toArray]
  unfold fcells
  rw [List.map_set, show 2 + c = c + 1 + 1 by omega]
  rfl
end
end Go.Proofs.Ytmgpimibnogcaaa
