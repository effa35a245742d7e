/-
  PLAIN: the worklist of Reach.
-/
import Derived.Test.YtbeelcklbdnjnaaFp
namespace Go.Proofs.Ytbeelcklbdnjnaa

/-- What is reached, what is pending, and what of cur's is left. -/
structure Inv (N : Nat → List Int) (n : Nat) (b : List Bool) (p : List Int) (cur : Nat) (rest : List Int) : Prop where
  len : b.length = n
  z : b[0]? = some true
  r : ∀ i : Nat, b[i]? = some true → Rch N i
  pend : ∀ j ∈ p, ∃ i : Nat, j = (i : Int) ∧ b[i]? = some true
  cl : ∀ i : Nat, b[i]? = some true → (i : Int) ∈ p ∨ ∀ j ∈ N i, b[j.toNat]? = some true ∨ (i = cur ∧ j ∈ rest)
def cntF (b : List Bool) : Nat := b.count false
theorem cntF_set {b : List Bool} {i : Nat} (h : b[i]? = some false) : cntF (b.set i true) + 1 = cntF b := by
  unfold cntF
  obtain ⟨hi, he⟩ := List.getElem?_eq_some_iff.1 h
  have := List.count_set (a := true) (b := false) (l := b) hi
  have hp : 0 < b.count false := List.count_pos_iff.2 (he ▸ List.getElem_mem hi)
  simp [he] at this
  omega
def Put (b : List Bool) (p : List Int) (i : Nat) (b' : List Bool) (p' : List Int) : Prop := (b[i]? = some true ∧ b' = b ∧ p' = p) ∨ (b[i]? = some false ∧ b' = b.set i true ∧ p' = p ++ [(i : Int)])
theorem Inv.first {N : Nat → List Int} {n : Nat} (hn : 0 < n) (cur : Nat) : Inv N n ((List.replicate n false).set 0 true) [0] cur [] := by
  have key : ∀ i : Nat, ((List.replicate n false).set 0 true)[i]? = some true → i = 0 := by
    intro i h
    rw [List.getElem?_set] at h
    by_cases e : 0 = i
    · exact e.symm
    · rw [if_neg e, List.getElem?_replicate] at h
      split at h <;> simp at h
  have hz : ((List.replicate n false).set 0 true)[0]? = some true := List.getElem?_set_self (by simpa using hn)
  refine ⟨by simp, hz, fun i h => key i h ▸ .zero, fun j hj => ⟨0, by simpa using hj, hz⟩, fun i h => ?_⟩
  have := key i h
  subst this
  left; simp
theorem Inv.pop {N : Nat → List Int} {n : Nat} {b : List Bool} {p : List Int} {cur i : Nat} (h : Inv N n b (p ++ [(i : Int)]) cur []) : Inv N n b p i (N i) ∧ b[i]? = some true := by
  obtain ⟨i', e, hi⟩ := h.pend (i : Int) (by simp)
  have : i' = i := by omega
  subst this
  refine ⟨⟨h.len, h.z, h.r, fun j hj => h.pend j (by simp [hj]), fun k hk => ?_⟩, hi⟩
  rcases h.cl k hk with hm | hm
  · rcases List.mem_append.1 hm with hm | hm
    · exact .inl hm
    · simp at hm
      have : k = i' := by omega
      subst this
      exact .inr fun j hj => .inr ⟨rfl, hj⟩
  · exact .inr fun j hj => (hm j hj).imp id fun ⟨_, h⟩ => by cases h
theorem Inv.put {N : Nat → List Int} {n : Nat} {b b' : List Bool} {p p' : List Int} {cur m : Nat} {rest : List Int} (h : Inv N n b p cur ((m : Int) :: rest)) (hc : b[cur]? = some true) (hN : (m : Int) ∈ N cur) (hP : Put b p m b' p') : Inv N n b' p' cur rest ∧ b'[cur]? = some true ∧ cntF b' + p'.length = cntF b + p.length := by
  rcases hP with ⟨hm, rfl, rfl⟩ | ⟨hm, rfl, rfl⟩
  · refine ⟨⟨h.len, h.z, h.r, h.pend, fun i hi => (h.cl i hi).imp id fun hj j hjn => ?_⟩, hc, rfl⟩
    rcases hj j hjn with hj | ⟨e, hj⟩
    · exact .inl hj
    · rcases List.mem_cons.1 hj with rfl | hj
      · exact .inl (by simpa using hm)
      · exact .inr ⟨e, hj⟩
  · have hml : m < b.length := (List.getElem?_eq_some_iff.1 hm).1
    have mono : ∀ i : Nat, b[i]? = some true → (b.set m true)[i]? = some true := fun i hi => by
      rw [List.getElem?_set]
      split
      · rfl
      · exact hi
    have back : ∀ i : Nat, (b.set m true)[i]? = some true → i = m ∨ b[i]? = some true := fun i hi => by
      rw [List.getElem?_set] at hi
      split at hi
      · rename_i e; exact .inl e.symm
      · exact .inr hi
    have hself : (b.set m true)[m]? = some true := List.getElem?_set_self hml
    refine ⟨⟨by simpa using h.len, mono 0 h.z, fun i hi => ?_, fun j hj => ?_, fun i hi => ?_⟩, mono _ hc, ?_⟩
    · rcases back i hi with rfl | hi
      · have := Rch.step (h.r cur hc) hN
        simpa using this
      · exact h.r i hi
    · rcases List.mem_append.1 hj with hj | hj
      · obtain ⟨i, e, hi⟩ := h.pend j hj
        exact ⟨i, e, mono i hi⟩
      · exact ⟨m, by simpa using hj, hself⟩
    · rcases back i hi with rfl | hi
      · left; simp
      · rcases h.cl i hi with hp | hj
        · left; simp [hp]
        · right
          intro j hjn
          rcases hj j hjn with hj | ⟨e, hj⟩
          · exact .inl (mono _ hj)
          · rcases List.mem_cons.1 hj with rfl | hj
            · exact .inl (by simpa using hself)
            · exact .inr ⟨e, hj⟩
    · have := cntF_set hm
      rw [List.length_append]
      simp
      omega
theorem Inv.done {N : Nat → List Int} {n : Nat} {b : List Bool} {cur : Nat} (h : Inv N n b [] cur []) : IsR N n b :=
  isR_of h.len h.z (fun i j hi hj => by
    rcases h.cl i hi with hp | hp
    · cases hp
    · rcases hp j hj with h | ⟨_, h⟩
      · exact h
      · cases h) h.r
theorem Inv.drop {N : Nat → List Int} {n : Nat} {b : List Bool} {p : List Int} {c d : Nat} (h : Inv N n b p c []) : Inv N n b p d [] :=
  ⟨h.len, h.z, h.r, h.pend, fun i hi => (h.cl i hi).imp id fun hj j hjn => (hj j hjn).imp id fun ⟨_, h⟩ => by cases h⟩
/-- What may follow, with the handlers. -/
def nxtP (l : List In) (hs : List Hd) (i : Nat) : List Int := nxt (succL l) (covL l hs) (staL l hs) i
theorem cnt_first (n : Nat) (h : 0 < n) : cntF ((List.replicate n false).set 0 true) + 1 = n := by
  have := cntF_set (b := List.replicate n false) (i := 0) (by simp [h])
  rw [this]
  unfold cntF
  simp
end Go.Proofs.Ytbeelcklbdnjnaa
