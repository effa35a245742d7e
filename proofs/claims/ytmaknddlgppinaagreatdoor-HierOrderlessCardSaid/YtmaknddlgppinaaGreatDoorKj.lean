/-
  The same raw classes in another order: the plain facts.
-/
import Derived.Test.YtmaknddlgppinaaGreatDoorKh
set_option linter.unusedVariables false
set_option linter.unusedSimpArgs false
namespace Go.Proofs.YtmaknddlgppinaaGreatDoor
open Go.RowKit

theorem turn_perm {rs rs' : List Rw} (h : TurnAns rs rs') : (rs'.take 70).Perm (rs.take 70) := by
  rcases h with rfl | ⟨h70, k, hk, rfl⟩
  · exact .refl _
  · rw [List.take_of_length_le (by simp; omega), List.take_of_length_le h70]
    have := List.perm_append_comm (l₁ := rs.drop k) (l₂ := rs.take k)
    rwa [List.take_append_drop] at this
theorem open_perm {cs : List PC} (G : Good cs) {rs rs' : List Rw} (hp : (rs'.take 70).Perm (rs.take 70)) {ds : List PC} (h : openP cs (fcs (filesR rs) 0) = .inl ds) : ∃ es, openP cs (fcs (filesR rs') 0) = .inl es ∧ Alike ds es ∧ Alike es ds := by
  unfold filesR at h ⊢
  rw [fcs_raw] at h ⊢
  refine open_turn G ?_ (fcR_zero _ _) (fcR_name _ _) (fcR_name _ _) h
  rw [fcR_key, fcR_key]
  exact hp.map _
/-- What the two tables have in common, class by class. -/
theorem alike_at {ds es : List PC} (G : Good ds) (H : Good es) (h1 : Alike ds es) (h2 : Alike es ds) {i : Nat} {c : PC} (hc : ds[i]? = some c) :
    ∃ j d, ix es c.name = some j ∧ es[j]? = some d ∧ d.name = c.name ∧ d.super = c.super ∧ d.ifaces = c.ifaces ∧ d.iface = c.iface ∧ d.abs = c.abs ∧ At2 ds es i j := by
  obtain ⟨j, c', d, hc', hd, e1, e2, e3, e4, e5⟩ := at2_ex G.apart H.apart h1 h2 (List.getElem?_eq_some_iff.1 hc).1
  rw [hc] at hc'
  cases hc'
  refine ⟨j, d, ?_, hd, e1, e2, e3, e4, e5, ⟨c, d, hc, hd, e1, e2, e3, e4, e5⟩⟩
  rw [← e1]
  exact ix_of H.apart hd
theorem own_same {ds es bs : List PC} (H : Good es) (G : Good ds) {as' cs : List PC} (h1 : ds = bs ++ as') (h2 : es = bs ++ cs) {i j : Nat} (h : At2 ds es i j) : decide (bs.length ≤ i) = decide (bs.length ≤ j) := by
  obtain ⟨c, d, hc, hd, e1, _⟩ := h
  have key : ∀ {ds es as' cs : List PC} {i j : Nat} {c d : PC}, Distinct es → ds = bs ++ as' → es = bs ++ cs → ds[i]? = some c → es[j]? = some d → d.name = c.name → i < bs.length → j < bs.length := by
    intro ds es as' cs i j c d hD h1 h2 hc hd e hi
    subst h1; subst h2
    rw [List.getElem?_append_left hi] at hc
    have hc2 : (bs ++ cs)[i]? = some c := by rw [List.getElem?_append_left hi]; exact hc
    have := hD j i d c hd hc2 e
    omega
  by_cases hi : i < bs.length
  · have := key H.apart h1 h2 hc hd e1 hi
    rw [decide_eq_false (by omega), decide_eq_false (by omega)]
  · have : ¬ j < bs.length := fun hj => hi (key G.apart h2 h1 hd hc e1.symm hj)
    rw [decide_eq_true (by omega), decide_eq_true (by omega)]
theorem alike_names {ds es : List PC} (G : Good ds) (H : Good es) (h1 : Alike ds es) (h2 : Alike es ds) {i j : Nat} {l m : List Nat} (ha : At2 ds es i j) (hl : Ch ds i l) (hm : Ch es j m) : nms ds l = nms es m := by
  obtain ⟨e1, e2⟩ := alike_chain G H h1 h2 ha hl hm
  refine List.ext_getElem? fun k => ?_
  unfold nms
  rw [List.getElem?_map, List.getElem?_map]
  cases hx : l[k]? with
  | none =>
    rw [List.getElem?_eq_none_iff] at hx
    rw [List.getElem?_eq_none (show m.length ≤ k by omega)]
    rfl
  | some x =>
    have hk := (List.getElem?_eq_some_iff.1 hx).1
    have hy := List.getElem?_eq_getElem (show k < m.length by omega)
    rw [hy]
    obtain ⟨c, d, hc, hd, e, _⟩ := e2 k x _ hx hy
    simp only [Option.map_some, hc, hd, e]
theorem lubIs_alike {ds es : List PC} (G : Good ds) (H : Good es) (h1 : Alike ds es) (h2 : Alike es ds) {a b : TY} : (LubOk ds a b ↔ LubOk es a b) ∧ lubT ds a b = lubT es a b := by
  refine ⟨?_, alike_lub G H h1 h2⟩
  unfold LubOk
  rw [alike_has G H h1 h2, alike_has G H h1 h2]
end Go.Proofs.YtmaknddlgppinaaGreatDoor
