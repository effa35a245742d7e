/-
  PLAIN: descriptors of types and of signatures as lists of bytes: how they are written, how they are read, and that the two answer each other. No walk in it.
-/
import Derived.Test.YtamafgpconfipaaNm
import Derived.Lib.Bytealg
set_option linter.unusedVariables false
set_option linter.unusedSimpArgs false
namespace Go.Proofs.Ytamafgpconfipaa

/-- A type: its dimensions and its name. -/
abbrev Ty := Nat × List UInt8
def descT (p : Ty) : List UInt8 := List.replicate p.1 91 ++ (if p.2 = [] then [73] else 76 :: (p.2 ++ [59]))
def tlen (p : Ty) : Nat := (descT p).length
/-- A type has a descriptor. -/
def okT (d : Int) (n : List UInt8) : Bool := decide (0 ≤ d) && decide (d ≤ 4) && (n.isEmpty || nameL n)
def okP (p : Ty) : Bool := decide (p.1 ≤ 4) && (p.2.isEmpty || nameL p.2)
theorem okT_iff (d : Int) (n : List UInt8) : okT d n = true ↔ 0 ≤ d ∧ d ≤ 4 ∧ (n = [] ∨ nameL n = true) := by
  unfold okT
  simp only [Bool.and_eq_true, decide_eq_true_eq, Bool.or_eq_true, List.isEmpty_iff]
  exact ⟨fun ⟨⟨a, b⟩, c⟩ => ⟨a, b, c⟩, fun ⟨a, b, c⟩ => ⟨⟨a, b⟩, c⟩⟩
theorem okP_iff (p : Ty) : okP p = true ↔ p.1 ≤ 4 ∧ (p.2 = [] ∨ nameL p.2 = true) := by
  unfold okP
  simp only [Bool.and_eq_true, decide_eq_true_eq, Bool.or_eq_true, List.isEmpty_iff]
theorem okT_okP {d : Int} {n : List UInt8} (h : okT d n = true) : okP (d.toNat, n) = true ∧ ((d.toNat : Nat) : Int) = d := by
  obtain ⟨a, b, c⟩ := (okT_iff _ _).1 h
  exact ⟨(okP_iff _).2 ⟨by simp only; omega, c⟩, by omega⟩
theorem okP_okT {p : Ty} (h : okP p = true) : okT (p.1 : Int) p.2 = true := by
  obtain ⟨a, c⟩ := (okP_iff _).1 h
  exact (okT_iff _ _).2 ⟨by omega, by omega, c⟩

/-! ### a name bears no semicolon, and has at most 256 bytes -/
theorem nameL_nil : nameL [] = false := by decide
theorem nameL_valid {l : List UInt8} (h : nameL l = true) : validL l = true := by
  unfold nameL at h
  simp only [Bool.and_eq_true] at h
  exact h.2
theorem nameL_runes {l : List UInt8} (h : nameL l = true) : (runes l).length ≤ 64 ∧ ∀ r ∈ runes l, nameB (r : Int) = true := by
  unfold nameL nameGo at h
  simp only [Bool.and_eq_true, decide_eq_true_eq, List.all_eq_true] at h
  exact ⟨by omega, h.1.1.2⟩
theorem byte_u8 (c : Nat) (hc : c < 128) (r : Nat) (hs : Scal r) (h : UInt8.ofNat c ∈ u8 r) : r = c := by
  unfold Scal at hs
  have key : ∀ x : Nat, x < 256 → UInt8.ofNat c = UInt8.ofNat x → c = x := by
    intro x hx e
    have := congrArg UInt8.toNat e
    simp at this
    omega
  unfold u8 u8N bs at h
  split at h
  · simp only [List.map_cons, List.map_nil, List.mem_cons, List.not_mem_nil, or_false] at h
    have := key r (by omega) h
    omega
  split at h
  · simp only [List.map_cons, List.map_nil, List.mem_cons, List.not_mem_nil, or_false] at h
    rcases h with h | h
    · have := key _ (by omega) h; omega
    · have := key _ (by omega) h; omega
  split at h
  · simp only [List.map_cons, List.map_nil, List.mem_cons, List.not_mem_nil, or_false] at h
    rcases h with h | h | h
    · have := key _ (by omega) h; omega
    · have := key _ (by omega) h; omega
    · have := key _ (by omega) h; omega
  · simp only [List.map_cons, List.map_nil, List.mem_cons, List.not_mem_nil, or_false] at h
    rcases h with h | h | h | h
    · have := key _ (by omega) h; omega
    · have := key _ (by omega) h; omega
    · have := key _ (by omega) h; omega
    · have := key _ (by omega) h; omega
theorem nameL_no (c : Nat) (hc : c < 128) (hb : nameB (c : Int) = false) {l : List UInt8} (h : nameL l = true) : UInt8.ofNat c ∉ l := by
  intro hm
  have hv := valid_u8 l (nameL_valid h)
  have hr := (nameL_runes h).2
  have hs := runes_scal l
  rw [← hv] at hm
  obtain ⟨r, hrm, hx⟩ := List.mem_flatMap.1 hm
  have := byte_u8 c hc r (hs r hrm) hx
  subst this
  rw [hr r hrm] at hb
  exact absurd hb (by simp)
theorem name_semi {l : List UInt8} (h : nameL l = true) : (59 : UInt8) ∉ l := nameL_no 59 (by omega) (by decide) h
theorem u8_le4 (r : Nat) : (u8 r).length ≤ 4 := by
  unfold u8 u8N bs
  repeat' split
  all_goals simp
theorem flat_le (rs : List Nat) : (rs.flatMap u8).length ≤ 4 * rs.length := by
  induction rs with
  | nil => simp
  | cons r rs ih =>
    have := u8_le4 r
    simp only [List.flatMap_cons, List.length_append, List.length_cons]
    omega
theorem name_le {l : List UInt8} (h : nameL l = true) : l.length ≤ 256 := by
  have hv := valid_u8 l (nameL_valid h)
  have h64 := (nameL_runes h).1
  have := flat_le (runes l)
  rw [hv] at this
  omega
theorem descT_len (p : Ty) : (descT p).length = p.1 + (if p.2 = [] then 1 else p.2.length + 2) := by
  unfold descT
  by_cases h : p.2 = []
  · simp [h]
  · simp [h]
theorem tlen_pos (p : Ty) : 1 ≤ tlen p := by
  unfold tlen
  rw [descT_len]
  split <;> omega
theorem tlen_le {p : Ty} (h : okP p = true) : tlen p ≤ 262 := by
  obtain ⟨a, c⟩ := (okP_iff _).1 h
  unfold tlen
  rw [descT_len]
  rcases c with c | c
  · rw [if_pos c]; omega
  · have := name_le c
    split <;> omega

/-! ### reading a type -/
def baseL : List UInt8 → Option (List UInt8)
  | [] => none
  | c :: t => if c = 73 then some [] else if c = 76 then
      (if (t.takeWhile (· != 59)).length < t.length ∧ nameL (t.takeWhile (· != 59)) = true then some (t.takeWhile (· != 59)) else none) else none
theorem baseL_cons (c : UInt8) (t : List UInt8) : baseL (c :: t) = if c = 73 then some [] else if c = 76 then
      (if (t.takeWhile (· != 59)).length < t.length ∧ nameL (t.takeWhile (· != 59)) = true then some (t.takeWhile (· != 59)) else none) else none := rfl
def lead (l : List UInt8) : Nat := (l.takeWhile (· == 91)).length
def firstL (l : List UInt8) : Option Ty := if 4 < lead l then none else (baseL (l.drop (lead l))).map fun n => (lead l, n)
theorem lead_le (l : List UInt8) : lead l ≤ l.length := (List.takeWhile_prefix _).length_le
theorem lead_split (l : List UInt8) : l = List.replicate (lead l) 91 ++ l.drop (lead l) := by
  have h1 : l.takeWhile (· == 91) = List.replicate (lead l) 91 := by
    refine List.eq_replicate_iff.2 ⟨rfl, fun b hb => ?_⟩
    have := List.all_eq_true.1 (List.all_takeWhile (p := fun c : UInt8 => c == 91) (l := l)) b hb
    simpa using this
  have h2 : l.take (lead l) = l.takeWhile (· == 91) := by
    obtain ⟨t, ht⟩ := List.takeWhile_prefix (l := l) (· == (91 : UInt8))
    have : l.take (lead l) = (l.takeWhile (· == 91) ++ t).take (l.takeWhile (· == 91)).length := by rw [ht]; rfl
    rw [this, List.take_left]
  rw [← h1, ← h2, List.take_append_drop]
theorem lead_cons (c : UInt8) (t : List UInt8) : lead (c :: t) = if c = 91 then lead t + 1 else 0 := by
  unfold lead
  by_cases h : c = 91 <;> simp [h]
theorem lead_nil : lead [] = 0 := rfl
theorem lead_rep (d : Nat) (t : List UInt8) (h : lead t = 0) : lead (List.replicate d 91 ++ t) = d := by
  induction d with
  | zero => simpa using h
  | succ d ih => rw [List.replicate_succ, List.cons_append, lead_cons, if_pos rfl, ih]
theorem lead_drop (l : List UInt8) (k : Nat) (h : k ≤ lead l) : lead (l.drop k) = lead l - k := by
  induction k generalizing l with
  | zero => simp
  | succ k ih =>
    cases l with
    | nil => simp [lead_nil] at h
    | cons c t =>
      rw [lead_cons] at h ⊢
      by_cases hc : c = 91
      · rw [if_pos hc] at h ⊢
        rw [List.drop_succ_cons, ih t (by omega)]
        omega
      · rw [if_neg hc] at h; omega
theorem lead_at (l : List UInt8) (k : Nat) (h : k < lead l) : at0 l k = 91 := by
  induction k generalizing l with
  | zero =>
    cases l with
    | nil => simp [lead_nil] at h
    | cons c t =>
      rw [lead_cons] at h
      by_cases hc : c = 91
      · subst hc; rfl
      · rw [if_neg hc] at h; omega
  | succ k ih =>
    cases l with
    | nil => simp [lead_nil] at h
    | cons c t =>
      rw [lead_cons] at h
      by_cases hc : c = 91
      · rw [if_pos hc] at h
        exact ih t (by omega)
      · rw [if_neg hc] at h; omega
theorem lead_end (l : List UInt8) (h : lead l < l.length) : at0 l (lead l) ≠ 91 := by
  induction l with
  | nil => simp at h
  | cons c t ih =>
    rw [lead_cons] at h ⊢
    by_cases hc : c = 91
    · rw [if_pos hc] at h ⊢
      exact ih (by simp at h; omega)
    · rw [if_neg hc]
      intro hh
      apply hc
      have h1 : c.toNat = 91 := hh
      exact UInt8.toNat_inj.1 (by rw [h1]; rfl)

theorem takeWhile_to (n t : List UInt8) (h : (59 : UInt8) ∉ n) : (n ++ 59 :: t).takeWhile (· != 59) = n := by
  induction n with
  | nil => simp
  | cons c n ih =>
    simp only [List.mem_cons, not_or] at h
    rw [List.cons_append, List.takeWhile_cons, if_pos (by simpa using fun e => h.1 e.symm), ih h.2]
theorem baseL_some {l n : List UInt8} (h : baseL l = some n) : (n = [] ∨ nameL n = true) ∧ ∃ t, l = (if n = [] then [73] else 76 :: (n ++ [59])) ++ t := by
  cases l with
  | nil => simp [baseL] at h
  | cons c t =>
    rw [baseL_cons] at h
    by_cases h1 : c = 73
    · rw [if_pos h1] at h
      obtain rfl : [] = n := by simpa using h
      subst h1
      exact ⟨.inl rfl, t, by simp⟩
    rw [if_neg h1] at h
    by_cases h2 : c = 76
    · rw [if_pos h2] at h
      split at h
      · rename_i hh
        obtain ⟨hlt, hn⟩ := hh
        obtain rfl : t.takeWhile (· != 59) = n := by simpa using h
        subst h2
        have hne : t.takeWhile (· != 59) ≠ [] := by intro e; rw [e, nameL_nil] at hn; exact absurd hn (by simp)
        refine ⟨.inr hn, t.drop ((t.takeWhile (· != 59)).length + 1), ?_⟩
        rw [if_neg hne]
        obtain ⟨r, hr⟩ := List.takeWhile_prefix (l := t) (· != (59 : UInt8))
        have hrd : r = t.drop (t.takeWhile (· != 59)).length := by
          have : t.drop (t.takeWhile (· != 59)).length = (t.takeWhile (· != 59) ++ r).drop (t.takeWhile (· != 59)).length := by rw [hr]
          rw [this, List.drop_left]
        cases r with
        | nil =>
          have := congrArg List.length hr
          simp at this
          omega
        | cons x r =>
          have hx : x = 59 := by
            have hd := List.head?_dropWhile_not (p := fun c : UInt8 => c != 59) t
            have e : t.dropWhile (· != 59) = x :: r := by
              have := List.takeWhile_append_dropWhile (p := fun c : UInt8 => c != 59) (l := t)
              have h3 : t.takeWhile (· != 59) ++ t.dropWhile (· != 59) = t.takeWhile (· != 59) ++ (x :: r) := by rw [this, hr]
              exact List.append_cancel_left h3
            rw [e] at hd
            simpa using hd
          subst hx
          have : r = t.drop ((t.takeWhile (· != 59)).length + 1) := by
            rw [← List.drop_drop, ← hrd]; rfl
          rw [← this]
          simp [hr]
      · exact absurd h (by simp)
    · rw [if_neg h2] at h
      exact absurd h (by simp)
theorem baseL_of {n : List UInt8} (h : n = [] ∨ nameL n = true) (t : List UInt8) : baseL ((if n = [] then [73] else 76 :: (n ++ [59])) ++ t) = some n := by
  rcases h with rfl | h
  · simp [baseL]
  · have hne : n ≠ [] := by rintro rfl; rw [nameL_nil] at h; exact absurd h (by simp)
    rw [if_neg hne]
    show baseL (76 :: ((n ++ [59]) ++ t)) = _
    have e : (n ++ [59]) ++ t = n ++ 59 :: t := by simp
    rw [e, baseL_cons, takeWhile_to n t (name_semi h), if_neg (by decide), if_pos rfl, if_pos ⟨by simp, h⟩]
theorem firstL_some {l : List UInt8} {p : Ty} (h : firstL l = some p) : okP p = true ∧ l = descT p ++ l.drop (tlen p) := by
  unfold firstL at h
  by_cases h4 : 4 < lead l
  · rw [if_pos h4] at h; exact absurd h (by simp)
  rw [if_neg h4] at h
  obtain ⟨n, hn, rfl⟩ := Option.map_eq_some_iff.1 h
  obtain ⟨hok, t, ht⟩ := baseL_some hn
  refine ⟨(okP_iff _).2 ⟨by simp only; omega, hok⟩, ?_⟩
  have hl : l = descT (lead l, n) ++ t := by
    have := lead_split l
    rw [ht] at this
    rw [descT, List.append_assoc]
    exact this
  have hd : l.drop (tlen (lead l, n)) = t := by
    have e : l.drop (tlen (lead l, n)) = (descT (lead l, n) ++ t).drop (tlen (lead l, n)) := by rw [← hl]
    rw [e]
    exact List.drop_left
  rw [hd]
  exact hl
theorem lead_base (n t : List UInt8) : lead ((if n = [] then [73] else 76 :: (n ++ [59])) ++ t) = 0 := by
  split <;> rfl
theorem firstL_of {p : Ty} (h : okP p = true) (t : List UInt8) : firstL (descT p ++ t) = some p := by
  obtain ⟨h4, hn⟩ := (okP_iff _).1 h
  have e : descT p ++ t = List.replicate p.1 91 ++ ((if p.2 = [] then [73] else 76 :: (p.2 ++ [59])) ++ t) := by rw [descT, List.append_assoc]
  have hl : lead (descT p ++ t) = p.1 := by rw [e]; exact lead_rep _ _ (lead_base _ _)
  unfold firstL
  rw [hl, if_neg (by omega)]
  have hd : (descT p ++ t).drop p.1 = (if p.2 = [] then [73] else 76 :: (p.2 ++ [59])) ++ t := by
    rw [e]
    have := List.drop_left (l₁ := List.replicate p.1 (91 : UInt8)) (l₂ := (if p.2 = [] then [73] else 76 :: (p.2 ++ [59])) ++ t)
    rwa [List.length_replicate] at this
  rw [hd, baseL_of hn]
  rfl
theorem firstL_len {l : List UInt8} {p : Ty} (h : firstL l = some p) : tlen p ≤ l.length := by
  have := congrArg List.length (firstL_some h).2
  rw [List.length_append] at this
  unfold tlen
  omega
theorem firstL_nil : firstL [] = none := rfl
/-- The whole text is a type's. -/
def fieldL (l : List UInt8) : Option Ty := match firstL l with
  | some p => if tlen p = l.length then some p else none
  | none => none
theorem fieldL_some {l : List UInt8} {p : Ty} (h : fieldL l = some p) : okP p = true ∧ l = descT p := by
  unfold fieldL at h
  split at h
  · rename_i q hq
    by_cases hl : tlen q = l.length
    · rw [if_pos hl] at h
      obtain rfl : q = p := by simpa using h
      have := firstL_some hq
      refine ⟨this.1, ?_⟩
      have e := this.2
      rw [hl, List.drop_length, List.append_nil] at e
      exact e
    · rw [if_neg hl] at h; exact absurd h (by simp)
  · exact absurd h (by simp)
theorem fieldL_of {p : Ty} (h : okP p = true) : fieldL (descT p) = some p := by
  have := firstL_of h []
  rw [List.append_nil] at this
  unfold fieldL
  rw [this]
  exact if_pos rfl
/-- A type's text with more behind it is none's; nor is a beginning of it. -/
theorem fieldL_more {p : Ty} (h : okP p = true) (t : List UInt8) (ht : t ≠ []) : fieldL (descT p ++ t) = none := by
  have hp := List.length_pos_iff.2 ht
  unfold fieldL
  rw [firstL_of h t]
  exact if_neg (by rw [List.length_append]; unfold tlen; omega)
theorem fieldL_cut {p : Ty} (h : okP p = true) (k : Nat) (hk : k < tlen p) : fieldL ((descT p).take k) = none := by
  cases hq : fieldL ((descT p).take k) with
  | none => rfl
  | some q =>
    obtain ⟨a, b⟩ := fieldL_some hq
    have e : descT p = descT q ++ (descT p).drop k := by rw [← b, List.take_append_drop]
    have f := firstL_of a ((descT p).drop k)
    rw [← e] at f
    have g := firstL_of h []
    rw [List.append_nil, f] at g
    obtain rfl : q = p := by simpa using g
    have := congrArg List.length b
    rw [List.length_take] at this
    unfold tlen at hk
    omega

/-! ### reading a signature -/
def argsL : Nat → List UInt8 → List Ty × List UInt8
  | 0, l => ([], l)
  | f + 1, l => match firstL l with
    | none => ([], l)
    | some p => (p :: (argsL f (l.drop (tlen p))).1, (argsL f (l.drop (tlen p))).2)
def args (l : List UInt8) : List Ty × List UInt8 := argsL l.length l
theorem argsL_fuel : ∀ (f g : Nat) (l : List UInt8), l.length ≤ f → l.length ≤ g → argsL f l = argsL g l
  | 0, 0, _, _, _ => rfl
  | 0, g + 1, l, h, _ => by
    have : l = [] := List.eq_nil_of_length_eq_zero (by omega)
    subst this
    simp [argsL, firstL_nil]
  | f + 1, 0, l, _, h => by
    have : l = [] := List.eq_nil_of_length_eq_zero (by omega)
    subst this
    simp [argsL, firstL_nil]
  | f + 1, g + 1, l, h1, h2 => by
    unfold argsL
    split
    · rfl
    · rename_i p hp
      have h3 := tlen_pos p
      have h4 := firstL_len hp
      rw [argsL_fuel f g (l.drop (tlen p)) (by rw [List.length_drop]; omega) (by rw [List.length_drop]; omega)]
theorem args_none {l : List UInt8} (h : firstL l = none) : args l = ([], l) := by
  unfold args
  cases hl : l.length with
  | zero => rfl
  | succ n => unfold argsL; rw [h]
theorem args_some {l : List UInt8} {p : Ty} (h : firstL l = some p) : args l = (p :: (args (l.drop (tlen p))).1, (args (l.drop (tlen p))).2) := by
  have h3 := tlen_pos p
  have h4 := firstL_len h
  unfold args
  obtain ⟨n, hn⟩ : ∃ n, l.length = n + 1 := ⟨l.length - 1, by omega⟩
  rw [hn]
  show (match firstL l with | none => _ | some p => _) = _
  rw [h]
  simp only
  rw [argsL_fuel n (l.drop (tlen p)).length _ (by rw [List.length_drop]; omega) (Nat.le_refl _)]
/-- Induction along the arguments. -/
theorem args_ind {P : List UInt8 → Prop} (hn : ∀ l, firstL l = none → P l) (hc : ∀ l p, firstL l = some p → P (l.drop (tlen p)) → P l) (l : List UInt8) : P l := by
  have : ∀ (n : Nat) (l : List UInt8), l.length ≤ n → P l := by
    intro n
    induction n with
    | zero => intro l h; rw [List.eq_nil_of_length_eq_zero (Nat.le_zero.1 h)]; exact hn _ rfl
    | succ n ih =>
      intro l h
      cases hp : firstL l with
      | none => exact hn l hp
      | some p =>
        have h3 := tlen_pos p
        have h4 := firstL_len hp
        exact hc l p hp (ih _ (by rw [List.length_drop]; omega))
  exact this _ l (Nat.le_refl _)
theorem args_split (l : List UInt8) : (∀ p ∈ (args l).1, okP p = true) ∧ l = (args l).1.flatMap descT ++ (args l).2 := by
  refine args_ind (P := fun l => (∀ p ∈ (args l).1, okP p = true) ∧ l = (args l).1.flatMap descT ++ (args l).2) ?_ ?_ l
  · intro l h
    rw [args_none h]
    simp
  · intro l p h ih
    have hs := firstL_some h
    rw [args_some h]
    refine ⟨?_, ?_⟩
    · intro q hq
      rcases List.mem_cons.1 hq with rfl | hq
      · exact hs.1
      · exact ih.1 q hq
    · simp only [List.flatMap_cons, List.append_assoc]
      rw [← ih.2]
      exact hs.2
theorem args_of (xs : List Ty) (h : ∀ p ∈ xs, okP p = true) (t : List UInt8) (ht : firstL t = none) : args (xs.flatMap descT ++ t) = (xs, t) := by
  induction xs with
  | nil => exact args_none ht
  | cons p xs ih =>
    have e : (p :: xs).flatMap descT ++ t = descT p ++ (xs.flatMap descT ++ t) := by simp
    rw [e]
    have hf := firstL_of (h p (by simp)) (xs.flatMap descT ++ t)
    have hd : (descT p ++ (xs.flatMap descT ++ t)).drop (tlen p) = xs.flatMap descT ++ t := List.drop_left
    rw [args_some hf, hd, ih (fun q hq => h q (by simp [hq]))]
theorem args_length (l : List UInt8) : (args l).1.length + (args l).2.length ≤ l.length := by
  refine args_ind (P := fun l => (args l).1.length + (args l).2.length ≤ l.length) ?_ ?_ l
  · intro l h
    rw [args_none h]
    simp
  · intro l p h ih
    have h3 := tlen_pos p
    have h4 := firstL_len h
    rw [args_some h]
    rw [List.length_drop] at ih
    simp only [List.length_cons]
    omega

/-- What a signature answers: void, or a type. -/
def retL (l : List UInt8) : Option (Option Ty) := if l = [86] then some none else (fieldL l).map some
/-- A signature's arguments, and what it answers; none: the text has no such form. -/
def sigR : List Ty × List UInt8 → Option (List Ty × Option Ty)
  | (xs, 41 :: r) => (retL r).map fun q => (xs, q)
  | _ => none
def methL : List UInt8 → Option (List Ty × Option Ty)
  | 40 :: t => sigR (args t)
  | _ => none
def retD : Option Ty → List UInt8
  | none => [86]
  | some p => descT p
def sigD (m : List Ty × Option Ty) : List UInt8 := 40 :: (m.1.flatMap descT ++ 41 :: retD m.2)
def okS (m : List Ty × Option Ty) : Prop := (∀ p ∈ m.1, okP p = true) ∧ ∀ p, m.2 = some p → okP p = true
theorem retL_some {l : List UInt8} {q : Option Ty} (h : retL l = some q) : l = retD q ∧ ∀ p, q = some p → okP p = true := by
  unfold retL at h
  by_cases h1 : l = [86]
  · rw [if_pos h1] at h
    obtain rfl : none = q := by simpa using h
    exact ⟨h1, fun p hp => by simp at hp⟩
  · rw [if_neg h1] at h
    obtain ⟨p, hp, rfl⟩ := Option.map_eq_some_iff.1 h
    have := fieldL_some hp
    refine ⟨this.2, fun p' hp' => ?_⟩
    obtain rfl : p = p' := by simpa using hp'
    exact this.1
theorem desc_not_void {p : Ty} (h : okP p = true) : descT p ≠ [86] := by
  intro e
  have := firstL_of h []
  rw [List.append_nil, e] at this
  have hh : firstL [86] = none := by decide
  rw [hh] at this
  exact absurd this (by simp)
theorem retL_of {q : Option Ty} (h : ∀ p, q = some p → okP p = true) : retL (retD q) = some q := by
  cases q with
  | none => rfl
  | some p =>
    have hp := h p rfl
    unfold retL retD
    simp only
    rw [if_neg (desc_not_void hp), fieldL_of hp]
    rfl
theorem methL_some {l : List UInt8} {m : List Ty × Option Ty} (h : methL l = some m) : okS m ∧ l = sigD m := by
  unfold methL at h
  split at h
  · rename_i t
    have hs := args_split t
    generalize args t = a at *
    obtain ⟨xs, r⟩ := a
    unfold sigR at h
    split at h
    · rename_i xs' r' heq
      obtain ⟨rfl, rfl⟩ := Prod.mk.inj heq
      obtain ⟨q, hq, rfl⟩ := Option.map_eq_some_iff.1 h
      obtain ⟨e, hk⟩ := retL_some hq
      refine ⟨⟨hs.1, hk⟩, ?_⟩
      unfold sigD
      simp only
      rw [← e, ← hs.2]
    · exact absurd h (by simp)
  · exact absurd h (by simp)
theorem methL_of {m : List Ty × Option Ty} (h : okS m) : methL (sigD m) = some m := by
  obtain ⟨xs, q⟩ := m
  obtain ⟨h1, h2⟩ := h
  unfold sigD methL
  simp only
  have hn : firstL (41 :: retD q) = none := by
    unfold firstL
    have : lead (41 :: retD q) = 0 := rfl
    rw [this, if_neg (by omega)]
    rfl
  rw [args_of xs h1 _ hn]
  show (retL (retD q)).map (fun q => (xs, q)) = _
  rw [retL_of (fun p hp => h2 p hp)]
  rfl
/-- No text is both a type's and a signature's. -/
theorem field_meth {l : List UInt8} {p : Ty} {m : List Ty × Option Ty} (h1 : fieldL l = some p) (h2 : methL l = some m) : False := by
  have a := (fieldL_some h1)
  have b := (methL_some h2).2
  have hf := firstL_of a.1 []
  rw [List.append_nil, ← a.2, b] at hf
  have hn : firstL (sigD m) = none := by
    unfold sigD firstL
    have : lead (40 :: (m.1.flatMap descT ++ 41 :: retD m.2)) = 0 := rfl
    rw [this, if_neg (by omega)]
    rfl
  rw [hn] at hf
  exact absurd hf (by simp)

/-! ### pieces -/
/-- The piece at the front: its kind, its type, and how many bytes it has. -/
def pieceL : List UInt8 → Nat × Ty × Nat
  | [] => (1, (0, []), 0)
  | c :: t => if c = 40 then (2, (0, []), 1) else if c = 41 then (3, (0, []), 1) else if c = 86 then (4, (0, []), 1) else
    match firstL (c :: t) with
    | none => (0, (0, []), 0)
    | some p => (5, p, tlen p)
theorem pieceL_cons (c : UInt8) (t : List UInt8) : pieceL (c :: t) = if c = 40 then (2, (0, []), 1) else if c = 41 then (3, (0, []), 1) else if c = 86 then (4, (0, []), 1) else
    match firstL (c :: t) with
    | none => (0, (0, []), 0)
    | some p => (5, p, tlen p) := rfl
theorem firstL_head {c : UInt8} {t : List UInt8} {p : Ty} (h : firstL (c :: t) = some p) : c = 91 ∨ c = 73 ∨ c = 76 := by
  by_cases h1 : c = 91
  · exact .inl h1
  unfold firstL at h
  have hl : lead (c :: t) = 0 := by rw [lead_cons, if_neg h1]
  rw [hl, if_neg (by omega)] at h
  by_cases h2 : c = 73
  · exact .inr (.inl h2)
  by_cases h3 : c = 76
  · exact .inr (.inr h3)
  have hb : baseL (c :: t) = none := by rw [baseL_cons, if_neg h2, if_neg h3]
  rw [List.drop_zero, hb] at h
  exact absurd h (by simp)
theorem pieceL_type {l : List UInt8} {p : Ty} (h : firstL l = some p) : pieceL l = (5, p, tlen p) := by
  cases l with
  | nil => simp [firstL_nil] at h
  | cons c t =>
    have hc := firstL_head h
    rw [pieceL_cons, h]
    rw [if_neg (by rcases hc with rfl | rfl | rfl <;> decide), if_neg (by rcases hc with rfl | rfl | rfl <;> decide), if_neg (by rcases hc with rfl | rfl | rfl <;> decide)]
theorem pieceL_none {l : List UInt8} (h : firstL l = none) : (pieceL l).1 ≠ 5 ∧ (pieceL l).2.1 = (0, []) := by
  cases l with
  | nil => exact ⟨by decide, rfl⟩
  | cons c t =>
    rw [pieceL_cons, h]
    simp only
    repeat' split
    all_goals simp
theorem pieceL_len (l : List UInt8) : (pieceL l).2.2 ≤ l.length := by
  cases l with
  | nil => exact Nat.le_refl _
  | cons c t =>
    cases h : firstL (c :: t) with
    | some p => rw [pieceL_type h]; exact firstL_len h
    | none =>
      rw [pieceL_cons, h]
      simp only
      repeat' split
      all_goals simp
theorem pieceL_kind (l : List UInt8) : (pieceL l).1 ≤ 5 := by
  cases h : firstL l with
  | some p => rw [pieceL_type h]; exact Nat.le_refl _
  | none =>
    cases l with
    | nil => decide
    | cons c t =>
      rw [pieceL_cons, h]
      simp only
      repeat' split
      all_goals simp
theorem pieceL_ok (l : List UInt8) : okP (pieceL l).2.1 = true := by
  have h0 : okP (0, []) = true := by decide
  cases h : firstL l with
  | none => rw [(pieceL_none h).2]; exact h0
  | some p => rw [pieceL_type h]; exact (firstL_some h).1
end Go.Proofs.Ytamafgpconfipaa
