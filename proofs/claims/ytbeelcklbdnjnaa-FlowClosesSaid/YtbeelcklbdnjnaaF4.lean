/-
  WALKS: Succ, and the closure that lists.
-/
import Derived.Test.YtbeelcklbdnjnaaF3
import Derived.Deep.QuietTactic
import Derived.Deep.RegionLaw
import Derived.Deep.LoopGhost
import Derived.Deep.DeepCutAuto
set_option linter.unusedVariables false
set_option linter.unusedSimpArgs false
namespace Go.Proofs.Ytbeelcklbdnjnaa
open Go.RowKit

/-- What Succ has at hand: the row that tells what is listed (lb), the rows (ob), the cells that the closure holds (lc, sc), the map (mb). -/
structure SEnv (base n lb ob lc sc mb : Nat) (l : List In) (Ls : List Int) (ll : List (List Int)) (ps : List Value) (w : World) : Prop where
  lcell : w.heap[lc]? = some (.cells #[.slice (some ⟨lb, 0, none⟩) n n] 34 (0, 0))
  scell : w.heap[sc]? = some (.cells #[.slice (some ⟨ob, 0, none⟩) n n] 29 (0, 0))
  lrow : w.heap[lb]? = some (.cells (icells Ls).toArray 3 (0, 0))
  nest : Nest base ob [lb, lc, sc, mb] ll ps w
  map : PMap mb l w
  len1 : Ls.length = n
  len2 : ll.length = n
  hb : base ≤ w.heap.size
  geb : base ≤ lb
  geo : base ≤ ob
  ne1 : lb ≠ ob
  ne2 : lc ≠ ob
  ne3 : sc ≠ ob
  ne4 : mb ≠ ob
  ne5 : lc ≠ lb
  ne6 : sc ≠ lb
  ne7 : mb ≠ lb
/-- Blocks that hold neither ints nor rows of them are as they were. -/
def Sides (w w' : World) : Prop := ∀ (k : Nat) (cs : Array Value) (t : TypeId) (m : Nat × Nat), t ≠ 3 → t ≠ 34 → w.heap[k]? = some (.cells cs t m) → w'.heap[k]? = some (.cells cs t m)
/-- What is told to be listed is in the row of the i-th. -/
def Mk (Ls : List Int) (i : Nat) (s : List Int) : Prop := (∀ m : Nat, m < Ls.length → (Ls[m]? = some ((i : Int) + 1) ↔ (m : Int) ∈ s)) ∧ ∀ x ∈ Ls, x ≤ (i : Int) + 1
theorem SEnv.mark {base n lb ob lc sc mb : Nat} {l : List In} {Ls : List Int} {ll : List (List Int)} {ps : List Value} {w : World} (h : SEnv base n lb ob lc sc mb l Ls ll ps w) {m : Nat} (hm : m < n) (x : Int) :
    SEnv base n lb ob lc sc mb l (Ls.set m x) ll ps (w.setCell ⟨lb, m, none⟩ (.int .i64 x)) :=
  ⟨heap_set_ne h.ne5 h.lcell, heap_set_ne h.ne6 h.scell, by
    have := set_row (u := .int .i64 x) h.lrow (k := m) (by rw [icells_length, h.len1]; exact hm)
    rw [this]; simp [icells, List.map_set], h.nest.set (by simp) h.ne1, h.map.stay (Below.heap_setCell _ _ _ _ h.ne7), by rw [List.length_set]; exact h.len1, h.len2, by simpa using h.hb, h.geb, h.geo, h.ne1, h.ne2, h.ne3, h.ne4, h.ne5, h.ne6, h.ne7⟩
theorem SEnv.push {base n lb ob lc sc mb : Nat} {l : List In} {Ls : List Int} {ll : List (List Int)} {ps : List Value} {w w3 : World} (h : SEnv base n lb ob lc sc mb l Ls ll ps w) {i : Nat} {s : List Int} {p v : Value} {x : Int} (hl : ll[i]? = some s) (hp : ps[i]? = some p)
    (own3 : w3.ownsRow base 3 1 v (s.length + 1) (icells s ++ [.int .i64 x])) (hg : (w.alloc (.cells #[.int .i64 x] 3)).grownBy w3 p.ownBlock) (hm : Moved (w.alloc (.cells #[.int .i64 x] 3)) p v) :
    SEnv base n lb ob lc sc mb l Ls (ll.set i (s ++ [x])) (ps.set i v) (w3.setCell ⟨ob, i, none⟩ v) ∧ Below base w (w3.setCell ⟨ob, i, none⟩ v) ∧ w3.heap[ob]? = w.heap[ob]? ∧ w3.heap[sc]? = w.heap[sc]? ∧ Sides w (w3.setCell ⟨ob, i, none⟩ v) := by
  obtain ⟨h1, h2, h3, h4, h5, h6⟩ := h.nest.push hl hp h.hb own3 hg hm h.geo
  refine ⟨⟨heap_set_ne h.ne2 ((h2 lc (by simp)).trans h.lcell), heap_set_ne h.ne3 ((h2 sc (by simp)).trans h.scell), heap_set_ne h.ne1 ((h2 lb (by simp)).trans h.lrow), h1, h.map.stay ((Below.heap_setCell _ _ _ _ h.ne4).trans (h2 mb (by simp))), h.len1, by rw [List.length_set]; exact h.len2, by simp; have := h.hb; omega, h.geb, h.geo, h.ne1, h.ne2, h.ne3, h.ne4, h.ne5, h.ne6, h.ne7⟩, h3, h4, h2 sc (by simp), fun k cs t m ht ht2 hk => heap_set_ne (fun e => ht2 (by rw [e] at hk; rw [h.nest.out] at hk; injection hk with hk; injection hk with _ hk; exact hk.symm)) (h6 k cs t m ht hk)⟩
theorem SEnv.drewN {base n lb ob lc sc mb : Nat} {l : List In} {Ls : List Int} {ll : List (List Int)} {ps : List Value} {w : World} (h : SEnv base n lb ob lc sc mb l Ls ll ps w) (j : Nat) : SEnv base n lb ob lc sc mb l Ls ll ps (w.drewN j) :=
  ⟨h.lcell, h.scell, h.lrow, h.nest.below (below_dn (Below.refl _ _) j), h.map.stay rfl, h.len1, h.len2, h.hb, h.geb, h.geo, h.ne1, h.ne2, h.ne3, h.ne4, h.ne5, h.ne6, h.ne7⟩
set_option maxRecDepth 1000000 in
set_option maxHeartbeats 3200000 in
theorem list_any {base n lb ob lc sc mb : Nat} {l : List In} {Ls : List Int} {ll : List (List Int)} {ps : List Value} (i m : Nat) (s : List Int) (w : World) (h : SEnv base n lb ob lc sc mb l Ls ll ps w) (hs : ll[i]? = some s) (hm : m < n) (hk : Mk Ls i s) (hn : n ≤ 1000000) (hsl2 : s.length ≤ 2000000) :
    Calls Try.prog 27 #[.int .i64 i, .int .i64 m, .pointer (some ⟨lc, 0, none⟩), .pointer (some ⟨sc, 0, none⟩)] w fun e w' => e = .returned (.tuple #[]) ∧ ∃ Ls' ps', SEnv base n lb ob lc sc mb l Ls' (ll.set i (addI s m)) ps' w' ∧ Mk Ls' i (addI s m) ∧ Below base w w' ∧ Sides w w' := by
  have hi : i < n := by have := (List.getElem?_eq_some_iff.1 hs).1; rw [h.len2] at this; exact this
  have HE := Lib.hid h
  have HS := Lib.hid hs
  have HK := Lib.hid hk
  have c1 := cells_of h.lcell 0
  have c2 := cells_of h.scell 0
  have c3 := cells_of h.lrow m
  have f3 := free_of h.lrow
  have hll := lt_of_block h.lcell
  have hsl := lt_of_block h.scell
  have hbl := lt_of_block h.lrow
  obtain ⟨y, hy⟩ : ∃ y, Ls[m]? = some y := ⟨_, List.getElem?_eq_getElem (by rw [h.len1]; exact hm)⟩
  have c3' : (icells Ls).toArray[m]? = some (.int .i64 y) := by simp [icells, hy]
  rw [c3'] at c3
  simp at c1 c2
  have HY := Lib.hid hy
  have hyb : y ≤ (i : Int) + 1 := hk.2 y (List.mem_of_getElem? hy)
  clear h hs hk c3' hy
  by_cases he : y = (i : Int) + 1
  · have hin : (m : Int) ∈ s := (HK.out.1 m (by rw [HE.out.len1]; exact hm)).1 (by rw [HY.out, he])
    have e0 : addI s m = s := by unfold addI; rw [if_pos hin]
    rw [e0]
    have e1 : (y == (i : Int) + 1) = true := by simpa using he
    have e2 : (y != (i : Int) + 1) = false := by simpa using he
    have e3 : ll.set i s = ll := by
      obtain ⟨h1, h2⟩ := List.getElem?_eq_some_iff.1 HS.out
      rw [← h2, List.set_getElem_self]
    rw [e3]
    clear hin e0 e3 he
    go_enter Try.func27, Try.ntmps27
    go_wp2
    go_end0
    exact ⟨rfl, Ls, ps, HE.out, HK.out, Below.refl _ _, fun _ _ _ _ _ _ h => h⟩
  · have hin : (m : Int) ∉ s := fun h => he (by have := (HK.out.1 m (by rw [HE.out.len1]; exact hm)).2 h; rw [HY.out] at this; exact Option.some.inj this)
    have e0 : addI s m = s ++ [(m : Int)] := by unfold addI; rw [if_neg hin]
    rw [e0]
    have e1 : (y == (i : Int) + 1) = false := by simpa using he
    have e2 : (y != (i : Int) + 1) = true := by simpa using he
    obtain ⟨i0, hi0, hz0, hz1, hz2⟩ := info3
    obtain ⟨p, hp⟩ : ∃ p, ps[i]? = some p := ⟨_, List.getElem?_eq_getElem (by rw [HE.out.nest.len, HE.out.len2]; exact hi)⟩
    have HP := Lib.hid hp
    have hown := HE.out.nest.own i s p HS.out hp
    obtain ⟨ap, cp, rfl⟩ := hown.form
    have HOWN := Lib.hid hown
    have HW1 := Lib.hid (show Mk (Ls.set m ((i : Int) + 1)) i (s ++ [(m : Int)]) from by
      refine ⟨fun k hk => ?_, fun x hx => ?_⟩
      · rw [List.length_set] at hk
        by_cases e : m = k
        · subst e
          rw [List.getElem?_set_self hk]
          simp
        · rw [List.getElem?_set_ne e, HK.out.1 k hk]
          simp
          omega
      · rcases List.mem_or_eq_of_mem_set hx with hx | rfl
        · exact HK.out.2 x hx
        · omega)
    have hll2 : s.length ≤ 2000000 := hsl2
    have HE1 := Lib.hid (HE.out.mark hm ((i : Int) + 1))
    have hBW := Lib.hid (show Below base w (w.setCell ⟨lb, m, none⟩ (.int .i64 ((i : Int) + 1))) from Below.setCell (Below.refl _ _) HE.out.geb _)
    have hSD := Lib.hid (show Sides w (w.setCell ⟨lb, m, none⟩ (.int .i64 ((i : Int) + 1))) from fun k cs t m ht ht2 hk => heap_set_ne (fun e => ht (by rw [e] at hk; rw [HE.out.lrow] at hk; injection hk with hk; injection hk with _ hk; exact hk.symm)) hk)
    obtain ⟨W1, hW1⟩ : ∃ x, x = w.setCell ⟨lb, m, none⟩ (.int .i64 ((i : Int) + 1)) := ⟨_, rfl⟩
    rw [← hW1] at HE1 hBW hSD
    have d2 := cells_of HE1.out.scell 0
    have d3 := cells_of HE1.out.nest.out i
    simp only [List.getElem?_toArray, HP.out] at d3
    simp at d2
    have hsw := lt_of_block HE1.out.scell
    have how := lt_of_block HE1.out.nest.out
    have hload : ∀ (j : Nat) (o : Obj), ((W1.drewN j).alloc o).cell? ⟨sc, 0, none⟩ = some (.slice (some ⟨ob, 0, none⟩) n n) := fun j o => (World.cell?_alloc_lt _ _ _ hsw).trans d2
    have hload2 : ∀ (j : Nat) (o : Obj), ((W1.drewN j).alloc o).cell? ⟨ob, i, none⟩ = some (.slice ap s.length cp) := fun j o => (World.cell?_alloc_lt _ _ _ how).trans d3
    have hbW := HE1.out.hb
    clear hp hown hin e0 he hyb hsl2
    go_enter Try.func27, Try.ntmps27
    go_wp2
    rw [← hW1]
    clear hW1
    go_region_law (first
              | (refine step_append_own2 rfl (.tmp 23) (.tmp 25) 34 rfl base 3 i0 (.int .i64 0) 1 8 Try.underlying34 hi0 hz0 hz1 hz2 rfl (by decide) (.slice ap s.length cp) s.length (icells s) rfl (World.ownsRow.alloc (own_below (HE1.out.nest.own i s _ HS.out HP.out) (below_dn (Below.refl _ _) _)) _) ⟨_, 0, none⟩ 1 1 [.int .i64 (m : Int)] rfl rfl (new_at _ [.int .i64 (m : Int)] 3 _ rfl) (int_cells .i64 [(m : Int)]) (by unfold maxLen; omega) (by omega) (by simp; omega) ?_
                 intro v3 w3 own3 hg3 hm3
                 have hres := Lib.hid ((HE1.out.drewN _).push HS.out HP.out own3 hg3 hm3)
                 have f33 := free_of (hres.out.2.2.1.trans HE1.out.nest.out) i
                 have c34 := cells_of (hres.out.2.2.2.1.trans HE1.out.scell) 0
                 simp at c34
                 have c33 := cells_of (hres.out.2.2.1.trans HE1.out.nest.out) i
                 simp only [List.getElem?_toArray, HP.out] at c33
                 obtain ⟨a3, c3, rfl⟩ := own_form own3
                 clear own3 hg3 hm3))
    all_goals (go_wp2_with fail; go_end0; exact ⟨rfl, _, _, hres.out.1, HW1.out, hBW.out.trans ((below_dn (Below.refl _ _) _).trans hres.out.2.1), fun k cs t m ht ht2 hk => hres.out.2.2.2.2 k cs t m ht ht2 (hSD.out k cs t m ht ht2 hk)⟩)
end Go.Proofs.Ytbeelcklbdnjnaa
