/-
  PLAIN: the sweeps of the document's Reach.
-/
import Derived.Test.YtbeelcklbdnjnaaFr
namespace Go.Proofs.Ytbeelcklbdnjnaa

/-- A sweep over b0: what has come to be reached, whether more has, how far it is. -/
structure Sw (N : Nat → List Int) (n : Nat) (b0 b : List Bool) (m : Bool) (i : Nat) (ks : List Int) : Prop where
  len : b.length = n
  z : b[0]? = some true
  r : ∀ i : Nat, b[i]? = some true → Rch N i
  no : m = false → b = b0 ∧ (∀ i' : Nat, i' < i → b[i']? = some true → ∀ j ∈ N i', b[j.toNat]? = some true) ∧ ∀ j ∈ ks, b[j.toNat]? = some true
  yes : m = true → cntF b + 1 ≤ cntF b0
theorem Sw.put {N : Nat → List Int} {n : Nat} {b0 b : List Bool} {m : Bool} {i q : Nat} {ks : List Int} (h : Sw N n b0 b m i ks) (hi : b[i]? = some true) (hN : (q : Int) ∈ N i) (hf : b[q]? = some false) : Sw N n b0 (b.set q true) true i (ks ++ [(q : Int)]) ∧ (b.set q true)[i]? = some true := by
  have hql : q < b.length := (List.getElem?_eq_some_iff.1 hf).1
  have mono : ∀ i : Nat, b[i]? = some true → (b.set q true)[i]? = some true := fun i hi => by
    rw [List.getElem?_set]
    split
    · rfl
    · exact hi
  refine ⟨⟨by simpa using h.len, mono 0 h.z, fun k hk => ?_, (fun e => by cases e), fun _ => ?_⟩, mono i hi⟩
  · rw [List.getElem?_set] at hk
    split at hk
    · rename_i e; subst e
      have := Rch.step (h.r i hi) hN
      simpa using this
    · exact h.r k hk
  · have := cntF_set hf
    cases m with
    | false => rw [(h.no rfl).1] at this ⊢; omega
    | true => have := h.yes rfl; omega
theorem Sw.skip {N : Nat → List Int} {n : Nat} {b0 b : List Bool} {m : Bool} {i q : Nat} {ks : List Int} (h : Sw N n b0 b m i ks) (ht : b[q]? = some true) : Sw N n b0 b m i (ks ++ [(q : Int)]) :=
  ⟨h.len, h.z, h.r, fun e => ⟨(h.no e).1, (h.no e).2.1, fun j hj => by
    rcases List.mem_append.1 hj with hj | hj
    · exact (h.no e).2.2 j hj
    · simp at hj; subst hj; simpa using ht⟩, h.yes⟩
theorem Sw.next {N : Nat → List Int} {n : Nat} {b0 b : List Bool} {m : Bool} {i : Nat} (h : Sw N n b0 b m i (N i)) : Sw N n b0 b m (i + 1) [] :=
  ⟨h.len, h.z, h.r, fun e => ⟨(h.no e).1, (fun i' hi' ht j hj => by
    rcases Nat.lt_or_eq_of_le (Nat.le_of_lt_succ hi') with h1 | rfl
    · exact (h.no e).2.1 i' h1 ht j hj
    · exact (h.no e).2.2 j hj), (fun j hj => by cases hj)⟩, h.yes⟩
theorem Sw.pass {N : Nat → List Int} {n : Nat} {b0 b : List Bool} {m : Bool} {i : Nat} (h : Sw N n b0 b m i []) (hf : b[i]? = some false) : Sw N n b0 b m (i + 1) [] :=
  ⟨h.len, h.z, h.r, fun e => ⟨(h.no e).1, (fun i' hi' ht j hj => by
    rcases Nat.lt_or_eq_of_le (Nat.le_of_lt_succ hi') with h1 | rfl
    · exact (h.no e).2.1 i' h1 ht j hj
    · rw [hf] at ht; cases ht), (fun j hj => by cases hj)⟩, h.yes⟩
/-- What stands at the head of the sweeps. -/
structure Turns (N : Nat → List Int) (n : Nat) (b : List Bool) (m : Bool) (t : Nat) : Prop where
  len : b.length = n
  z : b[0]? = some true
  r : ∀ i : Nat, b[i]? = some true → Rch N i
  no : m = false → ∀ i : Nat, i < n → b[i]? = some true → ∀ j ∈ N i, b[j.toNat]? = some true
  yes : m = true → cntF b + t + 1 ≤ n
theorem Turns.start {N : Nat → List Int} {n : Nat} (hn : 0 < n) : Turns N n ((List.replicate n false).set 0 true) true 0 := by
  have h := Inv.first (N := N) hn 0
  exact ⟨h.len, h.z, h.r, (fun e => by cases e), fun _ => by have := cnt_first n hn; omega⟩
theorem Turns.sweep {N : Nat → List Int} {n : Nat} {b : List Bool} {m : Bool} {t : Nat} (h : Turns N n b m t) : Sw N n b b false 0 [] :=
  ⟨h.len, h.z, h.r, fun _ => ⟨rfl, (fun i' hi' => by omega), (fun j hj => by cases hj)⟩, (fun e => by cases e)⟩
theorem Sw.turn {N : Nat → List Int} {n : Nat} {b0 b : List Bool} {m : Bool} {t : Nat} (h : Sw N n b0 b m n []) (h0 : cntF b0 + t + 1 ≤ n) : Turns N n b m (t + 1) :=
  ⟨h.len, h.z, h.r, fun e i hi ht j hj => (h.no e).2.1 i hi ht j hj, fun e => by have := h.yes e; omega⟩
theorem Turns.done {N : Nat → List Int} {n : Nat} {b : List Bool} {t : Nat} (h : Turns N n b false t) : IsR N n b :=
  isR_of h.len h.z (fun i j hi hj => h.no rfl i (by have := (List.getElem?_eq_some_iff.1 hi).1; rw [h.len] at this; exact this) hi j hj) h.r
end Go.Proofs.Ytbeelcklbdnjnaa
