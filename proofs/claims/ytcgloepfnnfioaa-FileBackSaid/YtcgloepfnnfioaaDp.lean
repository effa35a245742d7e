/-
  PRUNED by wip/tools/prunem.py: what these texts need of an earlier stage's.
-/
import Derived.Test.YtcgloepfnnfioaaW12
import Derived.Lib.Bytealg
set_option linter.unusedVariables false
set_option linter.unusedSimpArgs false
namespace Go.Proofs.Ytcgloepfnnfioaa


/-- A type: its dimensions and its name. -/
abbrev Ty := Nat × List UInt8
def descT (p : Ty) : List UInt8 := List.replicate p.1 91 ++ (if p.2 = [] then [73] else 76 :: (p.2 ++ [59]))
def tlen (p : Ty) : Nat := (descT p).length
def okP (p : Ty) : Bool := decide (p.1 ≤ 4) && (p.2.isEmpty || nameL p.2)
theorem okP_iff (p : Ty) : okP p = true ↔ p.1 ≤ 4 ∧ (p.2 = [] ∨ nameL p.2 = true) := by
  unfold okP
  simp only [Bool.and_eq_true, decide_eq_true_eq, Bool.or_eq_true, List.isEmpty_iff]
theorem nameL_nil : nameL [] = false := by decide
theorem descT_len (p : Ty) : (descT p).length = p.1 + (if p.2 = [] then 1 else p.2.length + 2) := by
  unfold descT
  by_cases h : p.2 = []
  · simp [h]
  · simp [h]
theorem tlen_pos (p : Ty) : 1 ≤ tlen p := by
  unfold tlen
  rw [descT_len]
  split <;> omega
def baseL : List UInt8 → Option (List UInt8)
  | [] => none
  | c :: t => if c = 73 then some [] else if c = 76 then
      (if (t.takeWhile (· != 59)).length < t.length ∧ nameL (t.takeWhile (· != 59)) = true then some (t.takeWhile (· != 59)) else none) else none
theorem baseL_cons (c : UInt8) (t : List UInt8) : baseL (c :: t) = if c = 73 then some [] else if c = 76 then
      (if (t.takeWhile (· != 59)).length < t.length ∧ nameL (t.takeWhile (· != 59)) = true then some (t.takeWhile (· != 59)) else none) else none := rfl
def lead (l : List UInt8) : Nat := (l.takeWhile (· == 91)).length
def firstL (l : List UInt8) : Option Ty := if 4 < lead l then none else (baseL (l.drop (lead l))).map fun n => (lead l, n)
theorem lead_le (l : List UInt8) : lead l ≤ l.length := (List.takeWhile_prefix _).length_le
theorem lead_split (l : List UInt8) : l = List.replicate (lead l) 91 ++ l.drop (lead l) := by
  have h1 : l.takeWhile (· == 91) = List.replicate (lead l) 91 := by
    refine List.eq_replicate_iff.2 ⟨rfl, fun b hb => ?_⟩
    have := List.all_eq_true.1 (List.all_takeWhile (p := fun c : UInt8 => c == 91) (l := l)) b hb
    simpa using this
  have h2 : l.take (lead l) = l.takeWhile (· == 91) := by
    obtain ⟨t, ht⟩ := List.takeWhile_prefix (l := l) (· == (91 : UInt8))
    have : l.take (lead l) = (l.takeWhile (· == 91) ++ t).take (l.takeWhile (· == 91)).length := by rw [ht]; rfl
    rw [this, List.take_left]
  rw [← h1, ← h2, List.take_append_drop]
theorem lead_cons (c : UInt8) (t : List UInt8) : lead (c :: t) = if c = 91 then lead t + 1 else 0 := by
  unfold lead
  by_cases h : c = 91 <;> simp [h]
theorem lead_nil : lead [] = 0 := rfl
theorem lead_at (l : List UInt8) (k : Nat) (h : k < lead l) : at0 l k = 91 := by
  induction k generalizing l with
  | zero =>
    cases l with
    | nil => simp [lead_nil] at h
    | cons c t =>
      rw [lead_cons] at h
      by_cases hc : c = 91
      · subst hc; rfl
      · rw [if_neg hc] at h; omega
  | succ k ih =>
    cases l with
    | nil => simp [lead_nil] at h
    | cons c t =>
      rw [lead_cons] at h
      by_cases hc : c = 91
      · rw [if_pos hc] at h
        exact ih t (by omega)
      · rw [if_neg hc] at h; omega
theorem lead_end (l : List UInt8) (h : lead l < l.length) : at0 l (lead l) ≠ 91 := by
  induction l with
  | nil => simp at h
  | cons c t ih =>
    rw [lead_cons] at h ⊢
    by_cases hc : c = 91
    · rw [if_pos hc] at h ⊢
      exact ih (by simp at h; omega)
    · rw [if_neg hc]
      intro hh
      apply hc
      have h1 : c.toNat = 91 := hh
      exact UInt8.toNat_inj.1 (by rw [h1]; rfl)
theorem baseL_some {l n : List UInt8} (h : baseL l = some n) : (n = [] ∨ nameL n = true) ∧ ∃ t, l = (if n = [] then [73] else 76 :: (n ++ [59])) ++ t := by
  cases l with
  | nil => simp [baseL] at h
  | cons c t =>
    rw [baseL_cons] at h
    by_cases h1 : c = 73
    · rw [if_pos h1] at h
      obtain rfl : [] = n := by simpa using h
      subst h1
      exact ⟨.inl rfl, t, by simp⟩
    rw [if_neg h1] at h
    by_cases h2 : c = 76
    · rw [if_pos h2] at h
      split at h
      · rename_i hh
        obtain ⟨hlt, hn⟩ := hh
        obtain rfl : t.takeWhile (· != 59) = n := by simpa using h
        subst h2
        have hne : t.takeWhile (· != 59) ≠ [] := by intro e; rw [e, nameL_nil] at hn; exact absurd hn (by simp)
        refine ⟨.inr hn, t.drop ((t.takeWhile (· != 59)).length + 1), ?_⟩
        rw [if_neg hne]
        obtain ⟨r, hr⟩ := List.takeWhile_prefix (l := t) (· != (59 : UInt8))
        have hrd : r = t.drop (t.takeWhile (· != 59)).length := by
          have : t.drop (t.takeWhile (· != 59)).length = (t.takeWhile (· != 59) ++ r).drop (t.takeWhile (· != 59)).length := by rw [hr]
          rw [this, List.drop_left]
        cases r with
        | nil =>
          have := congrArg List.length hr
          simp at this
          omega
        | cons x r =>
          have hx : x = 59 := by
            have hd := List.head?_dropWhile_not (p := fun c : UInt8 => c != 59) t
            have e : t.dropWhile (· != 59) = x :: r := by
              have := List.takeWhile_append_dropWhile (p := fun c : UInt8 => c != 59) (l := t)
              have h3 : t.takeWhile (· != 59) ++ t.dropWhile (· != 59) = t.takeWhile (· != 59) ++ (x :: r) := by rw [this, hr]
              exact List.append_cancel_left h3
            rw [e] at hd
            simpa using hd
          subst hx
          have : r = t.drop ((t.takeWhile (· != 59)).length + 1) := by
            rw [← List.drop_drop, ← hrd]; rfl
          rw [← this]
          simp [hr]
      · exact absurd h (by simp)
    · rw [if_neg h2] at h
      exact absurd h (by simp)
theorem firstL_some {l : List UInt8} {p : Ty} (h : firstL l = some p) : okP p = true ∧ l = descT p ++ l.drop (tlen p) := by
  unfold firstL at h
  by_cases h4 : 4 < lead l
  · rw [if_pos h4] at h; exact absurd h (by simp)
  rw [if_neg h4] at h
  obtain ⟨n, hn, rfl⟩ := Option.map_eq_some_iff.1 h
  obtain ⟨hok, t, ht⟩ := baseL_some hn
  refine ⟨(okP_iff _).2 ⟨by simp only; omega, hok⟩, ?_⟩
  have hl : l = descT (lead l, n) ++ t := by
    have := lead_split l
    rw [ht] at this
    rw [descT, List.append_assoc]
    exact this
  have hd : l.drop (tlen (lead l, n)) = t := by
    have e : l.drop (tlen (lead l, n)) = (descT (lead l, n) ++ t).drop (tlen (lead l, n)) := by rw [← hl]
    rw [e]
    exact List.drop_left
  rw [hd]
  exact hl
theorem firstL_len {l : List UInt8} {p : Ty} (h : firstL l = some p) : tlen p ≤ l.length := by
  have := congrArg List.length (firstL_some h).2
  rw [List.length_append] at this
  unfold tlen
  omega
theorem firstL_nil : firstL [] = none := rfl
/-- The whole text is a type's. -/
def fieldL (l : List UInt8) : Option Ty := match firstL l with
  | some p => if tlen p = l.length then some p else none
  | none => none
def argsL : Nat → List UInt8 → List Ty × List UInt8
  | 0, l => ([], l)
  | f + 1, l => match firstL l with
    | none => ([], l)
    | some p => (p :: (argsL f (l.drop (tlen p))).1, (argsL f (l.drop (tlen p))).2)
def args (l : List UInt8) : List Ty × List UInt8 := argsL l.length l
theorem argsL_fuel : ∀ (f g : Nat) (l : List UInt8), l.length ≤ f → l.length ≤ g → argsL f l = argsL g l
  | 0, 0, _, _, _ => rfl
  | 0, g + 1, l, h, _ => by
    have : l = [] := List.eq_nil_of_length_eq_zero (by omega)
    subst this
    simp [argsL, firstL_nil]
  | f + 1, 0, l, _, h => by
    have : l = [] := List.eq_nil_of_length_eq_zero (by omega)
    subst this
    simp [argsL, firstL_nil]
  | f + 1, g + 1, l, h1, h2 => by
    unfold argsL
    split
    · rfl
    · rename_i p hp
      have h3 := tlen_pos p
      have h4 := firstL_len hp
      rw [argsL_fuel f g (l.drop (tlen p)) (by rw [List.length_drop]; omega) (by rw [List.length_drop]; omega)]
theorem args_none {l : List UInt8} (h : firstL l = none) : args l = ([], l) := by
  unfold args
  cases hl : l.length with
  | zero => rfl
  | succ n => unfold argsL; rw [h]
theorem args_some {l : List UInt8} {p : Ty} (h : firstL l = some p) : args l = (p :: (args (l.drop (tlen p))).1, (args (l.drop (tlen p))).2) := by
  have h3 := tlen_pos p
  have h4 := firstL_len h
  unfold args
  obtain ⟨n, hn⟩ : ∃ n, l.length = n + 1 := ⟨l.length - 1, by omega⟩
  rw [hn]
  show (match firstL l with | none => _ | some p => _) = _
  rw [h]
  simp only
  rw [argsL_fuel n (l.drop (tlen p)).length _ (by rw [List.length_drop]; omega) (Nat.le_refl _)]
/-- What a signature answers: void, or a type. -/
def retL (l : List UInt8) : Option (Option Ty) := if l = [86] then some none else (fieldL l).map some
/-- A signature's arguments, and what it answers; none: the text has no such form. -/
def sigR : List Ty × List UInt8 → Option (List Ty × Option Ty)
  | (xs, 41 :: r) => (retL r).map fun q => (xs, q)
  | _ => none
def methL : List UInt8 → Option (List Ty × Option Ty)
  | 40 :: t => sigR (args t)
  | _ => none
/-- The piece at the front: its kind, its type, and how many bytes it has. -/
def pieceL : List UInt8 → Nat × Ty × Nat
  | [] => (1, (0, []), 0)
  | c :: t => if c = 40 then (2, (0, []), 1) else if c = 41 then (3, (0, []), 1) else if c = 86 then (4, (0, []), 1) else
    match firstL (c :: t) with
    | none => (0, (0, []), 0)
    | some p => (5, p, tlen p)
theorem pieceL_cons (c : UInt8) (t : List UInt8) : pieceL (c :: t) = if c = 40 then (2, (0, []), 1) else if c = 41 then (3, (0, []), 1) else if c = 86 then (4, (0, []), 1) else
    match firstL (c :: t) with
    | none => (0, (0, []), 0)
    | some p => (5, p, tlen p) := rfl
theorem firstL_head {c : UInt8} {t : List UInt8} {p : Ty} (h : firstL (c :: t) = some p) : c = 91 ∨ c = 73 ∨ c = 76 := by
  by_cases h1 : c = 91
  · exact .inl h1
  unfold firstL at h
  have hl : lead (c :: t) = 0 := by rw [lead_cons, if_neg h1]
  rw [hl, if_neg (by omega)] at h
  by_cases h2 : c = 73
  · exact .inr (.inl h2)
  by_cases h3 : c = 76
  · exact .inr (.inr h3)
  have hb : baseL (c :: t) = none := by rw [baseL_cons, if_neg h2, if_neg h3]
  rw [List.drop_zero, hb] at h
  exact absurd h (by simp)
theorem pieceL_type {l : List UInt8} {p : Ty} (h : firstL l = some p) : pieceL l = (5, p, tlen p) := by
  cases l with
  | nil => simp [firstL_nil] at h
  | cons c t =>
    have hc := firstL_head h
    rw [pieceL_cons, h]
    rw [if_neg (by rcases hc with rfl | rfl | rfl <;> decide), if_neg (by rcases hc with rfl | rfl | rfl <;> decide), if_neg (by rcases hc with rfl | rfl | rfl <;> decide)]
theorem pieceL_none {l : List UInt8} (h : firstL l = none) : (pieceL l).1 ≠ 5 ∧ (pieceL l).2.1 = (0, []) := by
  cases l with
  | nil => exact ⟨by decide, rfl⟩
  | cons c t =>
    rw [pieceL_cons, h]
    simp only
    repeat' split
    all_goals simp
theorem pieceL_len (l : List UInt8) : (pieceL l).2.2 ≤ l.length := by
  cases l with
  | nil => exact Nat.le_refl _
  | cons c t =>
    cases h : firstL (c :: t) with
    | some p => rw [pieceL_type h]; exact firstL_len h
    | none =>
      rw [pieceL_cons, h]
      simp only
      repeat' split
      all_goals simp
end Go.Proofs.Ytcgloepfnnfioaa
