/-
  PLAIN: the graph of instructions: what may follow, which handlers cover, what is reached. Nothing of the program in it.
-/
import Derived.Test.YtbeelcklbdnjnaaPm
namespace Go.Proofs.Ytbeelcklbdnjnaa

/-- A handler. -/
structure Hd where
  frm : Int
  to : Int
  at_ : Int
  cls : Int
instance : Inhabited Hd := ⟨⟨0, 0, 0, 0⟩⟩
def addI (s : List Int) (x : Int) : List Int := if x ∈ s then s else s ++ [x]
theorem mem_addI {s : List Int} {x y : Int} : y ∈ addI s x ↔ y ∈ s ∨ y = x := by
  unfold addI
  split
  · rename_i h
    exact ⟨.inl, fun h' => h'.elim id (fun e => e ▸ h)⟩
  · simp
def firstS (n i : Nat) (x : In) : List Int := if endsP x.op then [] else if i + 1 < n then [((i + 1 : Nat) : Int)] else []
/-- What may follow, by the first k jumps. -/
def sucN (l : List In) (i : Nat) (x : In) : Nat → List Int
  | 0 => firstS l.length i x
  | k + 1 => addI (sucN l i x k) (idxP l (x.to.getD k 0))
def sucP (l : List In) (i : Nat) (x : In) : List Int := sucN l i x x.to.length
def succL (l : List In) : List (List Int) := l.mapIdx fun i x => sucP l i x
theorem succL_len (l : List In) : (succL l).length = l.length := by simp [succL]
theorem succL_at {l : List In} {i : Nat} {x : In} (h : l[i]? = some x) : (succL l)[i]? = some (sucP l i x) := by simp [succL, List.getElem?_mapIdx, h]
theorem mem_sucN {l : List In} {i : Nat} {x : In} : ∀ {k : Nat} {j : Int}, k ≤ x.to.length → (j ∈ sucN l i x k ↔ j ∈ firstS l.length i x ∨ ∃ m t, m < k ∧ x.to[m]? = some t ∧ j = idxP l t)
  | 0, j, _ => by simp [sucN]
  | k + 1, j, hk => by
    have hx : x.to.getD k 0 = x.to[k]'(by omega) := by simp [List.getD, List.getElem?_eq_getElem (show k < x.to.length by omega)]
    rw [sucN, mem_addI, mem_sucN (by omega), hx]
    constructor
    · rintro ((h | ⟨m, t, hm, ht, rfl⟩) | rfl)
      · exact .inl h
      · exact .inr ⟨m, t, by omega, ht, rfl⟩
      · exact .inr ⟨k, _, by omega, List.getElem?_eq_getElem (by omega), rfl⟩
    · rintro (h | ⟨m, t, hm, ht, rfl⟩)
      · exact .inl (.inl h)
      · by_cases e : m = k
        · subst e
          rw [List.getElem?_eq_getElem (by omega)] at ht
          cases ht
          exact .inr rfl
        · exact .inl (.inr ⟨m, t, by omega, ht, rfl⟩)
theorem mem_sucP {l : List In} {i : Nat} {x : In} {j : Int} : j ∈ sucP l i x ↔ j ∈ firstS l.length i x ∨ ∃ t ∈ x.to, j = idxP l t := by
  unfold sucP
  rw [mem_sucN (Nat.le_refl _)]
  constructor
  · rintro (h | ⟨m, t, _, ht, rfl⟩)
    · exact .inl h
    · exact .inr ⟨t, List.mem_of_getElem? ht, rfl⟩
  · rintro (h | ⟨t, ht, rfl⟩)
    · exact .inl h
    · obtain ⟨m, hm⟩ := List.mem_iff_getElem?.1 ht
      exact .inr ⟨m, t, (List.getElem?_eq_some_iff.1 hm).1, hm, rfl⟩
theorem mem_first {n i : Nat} {x : In} {j : Int} : j ∈ firstS n i x ↔ endsP x.op = false ∧ i + 1 < n ∧ j = ((i + 1 : Nat) : Int) := by
  unfold firstS
  split
  · simp_all
  · split <;> simp_all <;> omega
/-- Whether a handler is right. -/
def okH (l : List In) (size : Int) (h : Hd) : Bool := decide (0 ≤ idxP l h.frm) && decide (0 ≤ idxP l h.at_) && (h.to == size || decide (0 ≤ idxP l h.to))
def covE (l : List In) (size : Int) (hs : List Hd) : Int := if hs.all (okH l size) then 0 else 12
/-- Which of the first k handlers cover. -/
def covN (hs : List Hd) (pc : Int) : Nat → List Int
  | 0 => []
  | k + 1 => covN hs pc k ++ (if (hs.getD k default).frm ≤ pc ∧ pc < (hs.getD k default).to then [(k : Int)] else [])
def covP (hs : List Hd) (pc : Int) : List Int := covN hs pc hs.length
def covL (l : List In) (hs : List Hd) : List (List Int) := l.map fun x => covP hs x.pc
def staL (l : List In) (hs : List Hd) : List Int := hs.map fun h => idxP l h.at_
theorem covL_at {l : List In} {hs : List Hd} {i : Nat} {x : In} (h : l[i]? = some x) : (covL l hs)[i]? = some (covP hs x.pc) := by simp [covL, h]
theorem getD_of {α : Type} {l : List α} {k : Nat} {x d : α} (h : l[k]? = some x) : l.getD k d = x := by simp [List.getD, h]
theorem mem_covN {hs : List Hd} {pc : Int} : ∀ {k : Nat} {j : Int}, k ≤ hs.length → (j ∈ covN hs pc k ↔ ∃ (m : Nat) (h : Hd), m < k ∧ hs[m]? = some h ∧ j = (m : Int) ∧ h.frm ≤ pc ∧ pc < h.to)
  | 0, j, _ => by simp [covN]
  | k + 1, j, hk => by
    have hx := List.getElem?_eq_getElem (show k < hs.length by omega)
    rw [covN, List.mem_append, mem_covN (by omega), getD_of hx]
    constructor
    · rintro (⟨m, h, hm, r⟩ | h)
      · exact ⟨m, h, by omega, r⟩
      · split at h
        · rename_i hc
          simp only [List.mem_singleton] at h
          exact ⟨k, _, by omega, hx, h, hc⟩
        · simp at h
    · rintro ⟨m, h, hm, hh, rfl, hc⟩
      by_cases e : m = k
      · subst e
        rw [hx] at hh
        cases hh
        right
        rw [if_pos hc]
        simp
      · exact .inl ⟨m, h, by omega, hh, rfl, hc⟩
theorem mem_covP {hs : List Hd} {pc j : Int} : j ∈ covP hs pc ↔ ∃ (m : Nat) (h : Hd), hs[m]? = some h ∧ j = (m : Int) ∧ h.frm ≤ pc ∧ pc < h.to := by
  unfold covP
  rw [mem_covN (Nat.le_refl _)]
  exact ⟨fun ⟨m, h, _, r⟩ => ⟨m, h, r⟩, fun ⟨m, h, r⟩ => ⟨m, h, (List.getElem?_eq_some_iff.1 r.1).1, r⟩⟩
theorem idx_stepP {l : List In} {pc : Int} {k : Nat} {x : In} (h : l[k]? = some x) (hn : ∀ (j : Nat) (y : In), j < k → l[j]? = some y → y.pc ≠ pc) (hx : x.pc = pc) : idxP l pc = k := by
  have hk : k < l.length := (List.getElem?_eq_some_iff.1 h).1
  unfold idxP
  have : l.findIdx? (fun x => x.pc == pc) = some k := by
    rw [List.findIdx?_eq_some_iff_getElem]
    refine ⟨hk, ?_, fun j hj => ?_⟩
    · rw [List.getElem?_eq_getElem hk] at h
      simp only [Option.some.injEq] at h
      rw [h]; simpa using hx
    · have := hn j _ hj (List.getElem?_eq_getElem (by omega))
      simpa using this
  rw [this]
/-- The instructions stand in their order, from 0 on, ahead of an end. -/
structure Ord (n : Nat) (l : List In) : Prop where
  ne : l ≠ []
  lt : ∀ (i j : Nat) (x y : In), i < j → l[i]? = some x → l[j]? = some y → x.pc < y.pc
  lo : ∀ x ∈ l, 0 ≤ x.pc
  hi : ∀ x ∈ l, x.pc < n
  jmp : ∀ x ∈ l, ∀ t ∈ x.to, ∃ y ∈ l, y.pc = t
  few : ∀ x ∈ l, x.to.length ≤ 5000
theorem Ord.inj {n : Nat} {l : List In} (h : Ord n l) {i j : Nat} {x y : In} (hi : l[i]? = some x) (hj : l[j]? = some y) (e : x.pc = y.pc) : i = j := by
  rcases Nat.lt_trichotomy i j with k | k | k
  · have := h.lt i j x y k hi hj; omega
  · exact k
  · have := h.lt j i y x k hj hi; omega
theorem Ord.idx {n : Nat} {l : List In} (h : Ord n l) {i : Nat} {x : In} (hi : l[i]? = some x) : idxP l x.pc = i := by
  refine idx_stepP hi (fun j y hj hy e => ?_) rfl
  have := h.lt j i y x hj hy hi
  omega
/-- An index that is found is that of an instruction with that place. -/
theorem idx_found {l : List In} {pc : Int} (h : 0 ≤ idxP l pc) : ∃ i x, l[i]? = some x ∧ x.pc = pc ∧ idxP l pc = (i : Nat) := by
  unfold idxP at h ⊢
  cases e : l.findIdx? (fun x => x.pc == pc) with
  | none => rw [e] at h; simp at h
  | some i =>
    rw [List.findIdx?_eq_some_iff_getElem] at e
    obtain ⟨hi, hp, _⟩ := e
    exact ⟨i, l[i], List.getElem?_eq_getElem hi, by simpa using hp, rfl⟩
theorem idx_or (l : List In) (pc : Int) : 0 ≤ idxP l pc ∨ idxP l pc = -1 := by
  unfold idxP
  split
  · left; omega
  · right; rfl
theorem idx_not {l : List In} {pc : Int} (h : ¬ 0 ≤ idxP l pc) : ∀ (j : Nat) (y : In), l[j]? = some y → y.pc ≠ pc := by
  intro j y hy e
  apply h
  unfold idxP
  split
  · omega
  · rename_i hn
    rw [List.findIdx?_eq_none_iff] at hn
    have := hn y (List.mem_of_getElem? hy)
    simp at this
    exact absurd e this
theorem idx_lt (l : List In) (pc : Int) : idxP l pc < l.length ∧ -1 ≤ idxP l pc := by
  rcases idx_or l pc with h | h
  · obtain ⟨i, x, hi, _, e⟩ := idx_found h
    have := (List.getElem?_eq_some_iff.1 hi).1
    omega
  · omega
theorem Ord.to_ {n : Nat} {l : List In} (h : Ord n l) {x : In} (hx : x ∈ l) {t : Int} (ht : t ∈ x.to) : ∃ m y, l[m]? = some y ∧ y.pc = t ∧ idxP l t = (m : Nat) ∧ m < l.length := by
  obtain ⟨y, hy, e⟩ := h.jmp x hx t ht
  obtain ⟨m, hm⟩ := List.mem_iff_getElem?.1 hy
  exact ⟨m, y, hm, e, by rw [← e]; exact h.idx hm, (List.getElem?_eq_some_iff.1 hm).1⟩
theorem len_addI (s : List Int) (x : Int) : (addI s x).length ≤ s.length + 1 := by unfold addI; split <;> simp
theorem len_sucN (l : List In) (i : Nat) (x : In) : ∀ k, (sucN l i x k).length ≤ k + 1
  | 0 => by unfold sucN firstS; split <;> (try split) <;> simp
  | k + 1 => by
    unfold sucN
    have := len_addI (sucN l i x k) (idxP l (x.to.getD k 0))
    have := len_sucN l i x k
    omega
/-- What leads on from an instruction. -/
def nxt (S C : List (List Int)) (A : List Int) (i : Nat) : List Int := S.getD i [] ++ (C.getD i []).map fun h => A.getD h.toNat (-1)
inductive Rch (N : Nat → List Int) : Nat → Prop
  | zero : Rch N 0
  | step {i : Nat} {j : Int} (h : Rch N i) (hj : j ∈ N i) : Rch N j.toNat
theorem Rch.mono {N M : Nat → List Int} (h : ∀ i j, j ∈ N i → j ∈ M i) {i : Nat} (r : Rch N i) : Rch M i := by
  induction r with
  | zero => exact .zero
  | step _ hj ih => exact .step ih (h _ _ hj)
/-- b tells what is reached. -/
def IsR (N : Nat → List Int) (n : Nat) (b : List Bool) : Prop := b.length = n ∧ ∀ i, i < n → (b[i]? = some true ↔ Rch N i)
theorem IsR.uniq {N : Nat → List Int} {n : Nat} {a b : List Bool} (ha : IsR N n a) (hb : IsR N n b) : a = b := by
  apply List.ext_getElem?
  intro i
  by_cases hi : i < n
  · have h1 := ha.2 i hi
    have h2 := hb.2 i hi
    rw [List.getElem?_eq_getElem (by rw [ha.1]; exact hi)] at h1 ⊢
    rw [List.getElem?_eq_getElem (by rw [hb.1]; exact hi)] at h2 ⊢
    simp only [Option.some.injEq] at h1 h2 ⊢
    cases e1 : a[i]'(by rw [ha.1]; exact hi) <;> cases e2 : b[i]'(by rw [hb.1]; exact hi) <;> simp_all
  · rw [List.getElem?_eq_none (by rw [ha.1]; omega), List.getElem?_eq_none (by rw [hb.1]; omega)]
/-- What is closed, begins with the first, and holds but what is reached, is what is reached. -/
theorem isR_of {N : Nat → List Int} {n : Nat} {b : List Bool} (hl : b.length = n) (h0 : b[0]? = some true) (hc : ∀ (i : Nat) (j : Int), b[i]? = some true → j ∈ N i → b[j.toNat]? = some true) (hr : ∀ i, b[i]? = some true → Rch N i) : IsR N n b := by
  have key : ∀ i, Rch N i → b[i]? = some true := fun i r => by
    induction r with
    | zero => exact h0
    | step _ hj ih => exact hc _ _ ih hj
  exact ⟨hl, fun i _ => ⟨hr i, key i⟩⟩
end Go.Proofs.Ytbeelcklbdnjnaa
