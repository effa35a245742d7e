/-
  What is held, turned: one more, one less, a word written.
-/
import Derived.Test.YtmgpimibnogcaaaKb
set_option linter.unusedVariables false
set_option linter.unusedSimpArgs false
namespace Go.Proofs.Ytmgpimibnogcaaa
open Go.RowKit

theorem info45 : ∃ i, Try.prog.info? 45 = some i ∧ i.zero = some (.agg #[.int .i64 0, .slice none 0 0]) ∧ i.size = 2 ∧ i.bytes = 32 := info_parts (by kernel_rfl)
theorem hl_one (l : List Hl) : ∀ u ∈ l.flatMap Hl.cells, u.oneCell' = true := by
  intro u hu
  obtain ⟨x, _, hx⟩ := List.mem_flatMap.1 hu
  unfold Hl.cells at hx
  simp only [List.mem_cons, List.not_mem_nil, or_false] at hx
  rcases hx with rfl | rfl <;> rfl
theorem hl_len : ∀ l : List Hl, (l.flatMap Hl.cells).length = l.length * 2
  | [] => rfl
  | x :: r => by rw [List.flatMap_cons, List.length_append, hl_len r, List.length_cons]; show 2 + _ = _; omega
section
variable {base : Nat} {w w' : World} {v v' : Value} {hs la lb : List Hl} {x : Hl}
/-- The row of a held block is none of the list's own. -/
theorem HMem.apart (h : HMem base w v hs) {x : Hl} (hx : x ∈ hs) : v.ownBlock ≠ some x.bb := own_ne h.own (h.rows x hx).2 (by decide)
theorem HMem.more {wA wC wD : World} {x7 : Int} {s : Nat} (h : HMem base wA v hs) (hb : base ≤ wA.heap.size) (hC : Below wA.heap.size wA wC) (hbb : wC.heap[wA.heap.size]? = some (.cells (icells (List.replicate s 0)).toArray 3 (0, 0)))
    (hown : wD.ownsRow base 45 2 v' (hs.length + 1) (hs.flatMap Hl.cells ++ [.int .i64 x7, .slice (some ⟨wA.heap.size, 0, none⟩) s s])) (hg : wC.grownBy wD v.ownBlock) : HMem base wD v' (hs ++ [⟨x7, wA.heap.size, List.replicate s 0⟩]) := by
  refine ⟨?_, fun y hy => ?_, ?_⟩
  · rw [List.flatMap_append, List.length_append]
    have e : [(⟨x7, wA.heap.size, List.replicate s 0⟩ : Hl)].flatMap Hl.cells = [.int .i64 x7, .slice (some ⟨wA.heap.size, 0, none⟩) s s] := by
      show [Value.int .i64 x7, .slice (some ⟨wA.heap.size, 0, none⟩) (List.replicate s (0 : Int)).length (List.replicate s (0 : Int)).length] = _
      rw [List.length_replicate]
    rw [e]
    exact hown
  · rw [List.mem_append, List.mem_singleton] at hy
    rcases hy with hy | rfl
    · have h1 := h.rows y hy
      have h2 := (hC.block _ (lt_of_block h1.2)).trans h1.2
      refine ⟨h1.1, (hg.block _ (lt_of_block h2) ?_).trans h2⟩
      intro e
      exact h.apart hy e.symm
    · refine ⟨hb, (hg.block _ (lt_of_block hbb) ?_).trans hbb⟩
      intro e
      have := (h.own.lt wA.heap.size e.symm).2
      omega
  · rw [List.map_append]
    refine List.nodup_append.2 ⟨h.nd, by simp, fun a ha c hc => ?_⟩
    obtain ⟨y, hy, rfl⟩ := List.mem_map.1 ha
    have hc' : c = wA.heap.size := by simpa using hc
    have := lt_of_block (h.rows y hy).2
    omega
theorem HMem.less (h : HMem base w v (la ++ x :: lb)) (hb : Below w.heap.size w w') (hown : w'.ownsRow base 45 2 v' (la.length + lb.length) (la.flatMap Hl.cells ++ lb.flatMap Hl.cells)) : HMem base w' v' (la ++ lb) := by
  refine ⟨by rw [List.flatMap_append, List.length_append]; exact hown, fun y hy => ?_, ?_⟩
  · have h1 := h.rows y (by rw [List.mem_append, List.mem_cons]; rcases List.mem_append.1 hy with h | h; exact .inl h; exact .inr (.inr h))
    exact ⟨h1.1, (hb.block _ (lt_of_block h1.2)).trans h1.2⟩
  · have := h.nd
    rw [List.map_append, List.map_cons] at this
    rw [List.map_append]
    exact this.sublist ((List.Sublist.refl _).append (List.sublist_cons_self _ _))
theorem HMem.put (h : HMem base w v (la ++ x :: lb)) (j : Nat) (c : Int) : HMem base (w.setCell ⟨x.bb, j, none⟩ (.int .i64 c)) v (la ++ ⟨x.ad, x.bb, x.body.set j c⟩ :: lb) := by
  have hx : x ∈ la ++ x :: lb := by simp
  have hnd := h.nd
  rw [List.map_append, List.map_cons] at hnd
  obtain ⟨_, n2, n3⟩ := List.nodup_append.1 hnd
  have hne : ∀ y, y ∈ la ∨ y ∈ lb → y.bb ≠ x.bb := by
    rintro y (hy | hy)
    · exact n3 _ (List.mem_map.2 ⟨y, hy, rfl⟩) _ (by simp)
    · intro e
      exact (List.nodup_cons.1 n2).1 (e ▸ List.mem_map.2 ⟨y, hy, rfl⟩)
  refine ⟨?_, fun y hy => ?_, by rw [List.map_append, List.map_cons]; exact hnd⟩
  · have e1 : (la ++ (⟨x.ad, x.bb, x.body.set j c⟩ : Hl) :: lb).flatMap Hl.cells = (la ++ x :: lb).flatMap Hl.cells := by
      rw [List.flatMap_append, List.flatMap_append, List.flatMap_cons, List.flatMap_cons]
      congr 2
      show [Value.int .i64 x.ad, .slice (some ⟨x.bb, 0, none⟩) (x.body.set j c).length (x.body.set j c).length] = _
      rw [List.length_set]
      rfl
    have e2 : (la ++ (⟨x.ad, x.bb, x.body.set j c⟩ : Hl) :: lb).length = (la ++ x :: lb).length := by simp
    rw [e1, e2]
    have hap := h.apart hx
    refine own_upd (S := [x.bb]) h.own (Upd.set (by simp)) fun g hg hm => ?_
    rw [List.mem_singleton] at hm
    subst hm
    exact hap hg
  · rw [List.mem_append, List.mem_cons] at hy
    have h0 := h.rows x hx
    rcases hy with hy | rfl | hy
    · have h1 := h.rows y (by simp [hy])
      exact ⟨h1.1, heap_setCell_ne (p := ⟨x.bb, j, none⟩) (hne y (.inl hy)) h1.2⟩
    · refine ⟨h0.1, ?_⟩
      show (w.setCell ⟨x.bb, j, none⟩ (.int .i64 c)).heap[x.bb]? = some (.cells (icells (x.body.set j c)).toArray 3 (0, 0))
      rw [heap_set_eq h0.2, List.setIfInBounds_toArray]
      unfold icells
      rw [List.map_set]
    · have h1 := h.rows y (by simp [hy])
      exact ⟨h1.1, heap_setCell_ne (p := ⟨x.bb, j, none⟩) (hne y (.inr hy)) h1.2⟩
/-- The list's cells, where it is split. -/
theorem HMem.split {g n c : Nat} (h : HMem base w (.slice (some ⟨g, 0, none⟩) n c) (la ++ x :: lb)) : g < w.heap.size ∧ base ≤ g ∧ (∀ j u, (la.flatMap Hl.cells)[j]? = some u → w.cell? ⟨g, j, none⟩ = some u) ∧ ∀ j u, (lb.flatMap Hl.cells)[j]? = some u → w.cell? ⟨g, (la.length + 1) * 2 + j, none⟩ = some u := by
  have hc := h.own.cells (g := g) rfl
  refine ⟨(h.own.lt g rfl).2, own_block_ge h.own g rfl, fun j u hu => ?_, fun j u hu => ?_⟩
  · have := hc j u (by
      have hj := (List.getElem?_eq_some_iff.1 hu).1
      rw [List.flatMap_append, List.getElem?_append_left hj]
      exact hu)
    rwa [plain_add, Nat.zero_add] at this
  · have := hc ((la.length + 1) * 2 + j) u (by
      rw [List.flatMap_append, List.flatMap_cons, List.getElem?_append_right (by rw [hl_len]; omega), hl_len, List.getElem?_append_right (by show 2 ≤ _; omega)]
      rw [show (la.length + 1) * 2 + j - la.length * 2 - x.cells.length = j by show _ - 2 = _; omega]
      exact hu)
    rwa [plain_add, Nat.zero_add] at this
end
theorem newsV_none {w : World} {a : Addr} {l : List Value} {k : Nat} (h : l.length = k * 2) (h0 : k = 0) : ∀ j u, l[j]? = some u → w.cell? (a.add j) = some u := by
  intro j u hu
  subst h0
  obtain rfl : l = [] := List.eq_nil_of_length_eq_zero (by omega)
  simp at hu
theorem newsV_take {w : World} {g : Nat} {l : List Value} {o : Obj} (hg : g < w.heap.size) (h : ∀ j u, l[j]? = some u → w.cell? ⟨g, j, none⟩ = some u) : ∀ j u, l[j]? = some u → (w.alloc o).drew.cell? (({ block := g, off := 0 } : Addr).add j) = some u := by
  intro j u hu
  rw [plain_add, Nat.zero_add]
  show (w.alloc o).cell? _ = _
  rw [World.cell?_alloc_lt w o _ hg]
  exact h j u hu
theorem newsV_drop {w w3 : World} {g m : Nat} {l : List Value} {o : Obj} (hg : g < w.heap.size) (h : ∀ j u, l[j]? = some u → w.cell? ⟨g, m + j, none⟩ = some u) (hgr : (w.alloc o).drew.grownBy w3 (some w.heap.size)) : ∀ j u, l[j]? = some u → w3.cell? (({ block := g, off := m } : Addr).add j) = some u := by
  intro j u hu
  rw [plain_add]
  have h2 : w3.heap[g]? = (w.alloc o).heap[g]? := hgr.block g (by show g < (w.alloc o).heap.size; simp; omega) (by intro e; injection e with e; omega)
  rw [Below.heap_alloc _ _ _ hg] at h2
  rw [← h j u hu]
  exact World.cell?_of_block (w := w) h2
theorem pick_addrV (bl c k g : Nat) (hc : g + 1 ≤ c) : ∃ AD : Addr, (if c = k + 1 then some ({ block := bl, off := 0 } : Addr) else some { block := bl, off := (k + 1) * 2 }) = some AD ∧ (AD = ⟨bl, (k + 1) * 2, none⟩ ∨ g ≤ k) := by
  by_cases h : c = k + 1
  · exact ⟨_, by rw [if_pos h], .inr (by omega)⟩
  · exact ⟨_, by rw [if_neg h], .inl rfl⟩
theorem newsV_any {w w3 : World} {bl k g : Nat} {l : List Value} {o : Obj} {AD : Addr} (hA : AD = ⟨bl, (k + 1) * 2, none⟩ ∨ g ≤ k) (hg : bl < w.heap.size) (h : ∀ j u, l[j]? = some u → w.cell? ⟨bl, (k + 1) * 2 + j, none⟩ = some u) (hgr : (w.alloc o).drew.grownBy w3 (some w.heap.size)) (hl : l.length = (g - k) * 2) :
    ∀ j u, l[j]? = some u → w3.cell? (AD.add j) = some u := by
  rcases hA with rfl | hA
  · exact newsV_drop hg h hgr
  · exact newsV_none hl (by omega)
end Go.Proofs.Ytmgpimibnogcaaa
