/-
  PLAIN: texts as lists of bytes: what a range over a string tells.
-/
import Derived.Lib.DecodeN
import Derived.Laws.Cover4
set_option linter.unusedVariables false
set_option linter.unusedSimpArgs false
namespace Go.Proofs.Ytamafgpconfipaa
open Go.Lib (decodeN decode_at)

def at0 (l : List UInt8) (i : Nat) : Nat := (l.getD i 0).toNat
theorem at0_lt (l : List UInt8) (i : Nat) : at0 l i < 256 := UInt8.toNat_lt _
theorem at0_drop (l : List UInt8) (k i : Nat) : at0 (l.drop k) i = at0 l (k + i) := by simp [at0, List.getD, List.getElem?_drop]
/-- The first rune of l, and its width, as a range over a string tells them. -/
def dec (l : List UInt8) : Nat × Nat := decodeN l.length (at0 l 0) (at0 l 1) (at0 l 2) (at0 l 3)
theorem get_getD (s : ByteArray) (i : Nat) : (s.get! i) = s.data.toList.getD i 0 := by
  cases s with
  | mk d =>
    show d[i]! = d.toList.getD i 0
    by_cases h : i < d.size
    · rw [getElem!_pos d i h]; simp [List.getD, h]
    · rw [getElem!_neg d i h]; simp [List.getD, h]; rfl
theorem decode_drop (s : ByteArray) (pos : Nat) : Utf8.decode s pos = dec (s.data.toList.drop pos) := by
  rw [decode_at]
  have hz : s.size - pos = (s.data.toList.drop pos).length := by simp
  simp only [dec, at0_drop, hz]
  simp only [at0, get_getD, Nat.add_zero]
theorem decodeN_width (n b0 b1 b2 b3 : Nat) : 1 ≤ (decodeN n b0 b1 b2 b3).2 ∧ (decodeN n b0 b1 b2 b3).2 ≤ 4 ∧ (1 ≤ n → (decodeN n b0 b1 b2 b3).2 ≤ n) := by
  unfold decodeN
  repeat' split
  all_goals simp only
  all_goals omega
theorem dec_width (l : List UInt8) : 1 ≤ (dec l).2 ∧ (dec l).2 ≤ 4 := ⟨(decodeN_width _ _ _ _ _).1, (decodeN_width _ _ _ _ _).2.1⟩
theorem dec_width_le (l : List UInt8) (h : l ≠ []) : (dec l).2 ≤ l.length := (decodeN_width _ _ _ _ _).2.2 (List.length_pos_iff.2 h)
theorem decodeN_rune (n b0 b1 b2 b3 : Nat) (h0 : b0 < 256) : (decodeN n b0 b1 b2 b3).1 ≤ 1114111 := by
  unfold decodeN
  repeat' split
  all_goals simp only
  all_goals omega
theorem dec_rune (l : List UInt8) : (dec l).1 ≤ 1114111 := decodeN_rune _ _ _ _ _ (at0_lt _ _)
/-- A scalar value. -/
def Scal (r : Nat) : Prop := r < 55296 ∨ (57344 ≤ r ∧ r ≤ 1114111)
instance (r : Nat) : Decidable (Scal r) := by unfold Scal; infer_instance
theorem decodeN_scal (n b0 b1 b2 b3 : Nat) (h0 : b0 < 256) : Scal (decodeN n b0 b1 b2 b3).1 := by
  unfold decodeN Scal
  repeat' split
  all_goals simp only
  all_goals omega
theorem dec_scal (l : List UInt8) : Scal (dec l).1 := decodeN_scal _ _ _ _ _ (at0_lt _ _)
/-- The bytes of a rune in UTF-8 (numbers). -/
def u8N (r : Nat) : List Nat :=
  if r < 128 then [r] else if r < 2048 then [192 + r / 64, 128 + r % 64]
  else if r < 65536 then [224 + r / 4096, 128 + r / 64 % 64, 128 + r % 64]
  else [240 + r / 262144, 128 + r / 4096 % 64, 128 + r / 64 % 64, 128 + r % 64]
def bs (l : List Nat) : List UInt8 := l.map UInt8.ofNat
def u8 (r : Nat) : List UInt8 := bs (u8N r)
theorem bs_length (l : List Nat) : (bs l).length = l.length := by simp [bs]
theorem at0_bs (l : List Nat) (t : List UInt8) (i : Nat) (hi : i < l.length) (hb : ∀ x ∈ l, x < 256) : at0 (bs l ++ t) i = l[i] := by
  have h1 : i < (bs l).length := by simpa [bs] using hi
  have : l[i] < 256 := hb _ (List.getElem_mem hi)
  simp only [at0, List.getD, List.getElem?_append_left h1, List.getElem?_eq_getElem h1, Option.getD_some]
  simp [bs]
  omega
set_option maxHeartbeats 1000000 in
theorem dec_u8 (r : Nat) (t : List UInt8) (h : Scal r) : dec (u8 r ++ t) = (r, (u8 r).length) := by
  unfold Scal at h
  have key : ∀ l : List Nat, u8N r = l → (∀ x ∈ l, x < 256) → dec (u8 r ++ t) = decodeN (l.length + t.length) (at0 (bs l ++ t) 0) (at0 (bs l ++ t) 1) (at0 (bs l ++ t) 2) (at0 (bs l ++ t) 3) ∧ (u8 r).length = l.length := by
    rintro l rfl hb
    unfold dec u8
    simp [bs_length]
  by_cases h1 : r < 128
  · obtain ⟨e, e2⟩ := key [r] (by simp [u8N, h1]) (by simp; omega)
    rw [e, e2, at0_bs _ _ 0 (by simp) (by simp; omega)]
    simp [decodeN, h1]
  by_cases h2 : r < 2048
  · have hb : ∀ x ∈ [192 + r / 64, 128 + r % 64], x < 256 := by simp; omega
    obtain ⟨e, e2⟩ := key [192 + r / 64, 128 + r % 64] (by simp [u8N, h1, h2]) hb
    rw [e, e2, at0_bs _ _ 0 (by simp) hb, at0_bs _ _ 1 (by simp) hb]
    simp only [List.getElem_cons_zero, List.getElem_cons_succ, List.length_cons, List.length_nil]
    unfold decodeN
    repeat' split
    all_goals first | (exfalso; omega) | (apply Prod.ext <;> simp only <;> omega)
  by_cases h3 : r < 65536
  · have hb : ∀ x ∈ [224 + r / 4096, 128 + r / 64 % 64, 128 + r % 64], x < 256 := by simp; omega
    obtain ⟨e, e2⟩ := key [224 + r / 4096, 128 + r / 64 % 64, 128 + r % 64] (by simp [u8N, h1, h2, h3]) hb
    rw [e, e2, at0_bs _ _ 0 (by simp) hb, at0_bs _ _ 1 (by simp) hb, at0_bs _ _ 2 (by simp) hb]
    simp only [List.getElem_cons_zero, List.getElem_cons_succ, List.length_cons, List.length_nil]
    unfold decodeN
    repeat' split
    all_goals first | (exfalso; omega) | (apply Prod.ext <;> simp only <;> omega)
  · have hb : ∀ x ∈ [240 + r / 262144, 128 + r / 4096 % 64, 128 + r / 64 % 64, 128 + r % 64], x < 256 := by simp; omega
    obtain ⟨e, e2⟩ := key [240 + r / 262144, 128 + r / 4096 % 64, 128 + r / 64 % 64, 128 + r % 64] (by simp [u8N, h1, h2, h3]) hb
    rw [e, e2, at0_bs _ _ 0 (by simp) hb, at0_bs _ _ 1 (by simp) hb, at0_bs _ _ 2 (by simp) hb, at0_bs _ _ 3 (by simp) hb]
    simp only [List.getElem_cons_zero, List.getElem_cons_succ, List.length_cons, List.length_nil]
    unfold decodeN
    repeat' split
    all_goals first | (exfalso; omega) | (apply Prod.ext <;> simp only <;> omega)
/-- The bad step. -/
def bad (p : Nat × Nat) : Bool := decide (p = (65533, 1))
theorem split_one (l : List UInt8) (x0 : Nat) (hn : 1 ≤ l.length) (h0 : at0 l 0 = x0) : l = bs [x0] ++ l.drop 1 := by
  match l, hn with
  | a :: t, _ => subst h0; simp [bs, at0]
theorem split_two (l : List UInt8) (x0 x1 : Nat) (hn : 2 ≤ l.length) (h0 : at0 l 0 = x0) (h1 : at0 l 1 = x1) : l = bs [x0, x1] ++ l.drop 2 := by
  match l, hn with
  | a :: b :: t, _ => subst h0 h1; simp [bs, at0]
theorem split_three (l : List UInt8) (x0 x1 x2 : Nat) (hn : 3 ≤ l.length) (h0 : at0 l 0 = x0) (h1 : at0 l 1 = x1) (h2 : at0 l 2 = x2) : l = bs [x0, x1, x2] ++ l.drop 3 := by
  match l, hn with
  | a :: b :: c :: t, _ => subst h0 h1 h2; simp [bs, at0]
theorem split_four (l : List UInt8) (x0 x1 x2 x3 : Nat) (hn : 4 ≤ l.length) (h0 : at0 l 0 = x0) (h1 : at0 l 1 = x1) (h2 : at0 l 2 = x2) (h3 : at0 l 3 = x3) : l = bs [x0, x1, x2, x3] ++ l.drop 4 := by
  match l, hn with
  | a :: b :: c :: d :: t, _ => subst h0 h1 h2 h3; simp [bs, at0]
/-- What decodeN tells: bad, or one of four forms. -/
theorem decodeN_forms (n b0 b1 b2 b3 : Nat) (h0 : b0 < 256) (h1 : b1 < 256) (h2 : b2 < 256) (h3 : b3 < 256) (hn : 1 ≤ n) :
    decodeN n b0 b1 b2 b3 = (65533, 1) ∨
    (∃ r, decodeN n b0 b1 b2 b3 = (r, 1) ∧ r < 128 ∧ b0 = r) ∨
    (∃ r, decodeN n b0 b1 b2 b3 = (r, 2) ∧ 128 ≤ r ∧ r < 2048 ∧ 2 ≤ n ∧ b0 = 192 + r / 64 ∧ b1 = 128 + r % 64) ∨
    (∃ r, decodeN n b0 b1 b2 b3 = (r, 3) ∧ 2048 ≤ r ∧ r < 65536 ∧ 3 ≤ n ∧ b0 = 224 + r / 4096 ∧ b1 = 128 + r / 64 % 64 ∧ b2 = 128 + r % 64) ∨
    (∃ r, decodeN n b0 b1 b2 b3 = (r, 4) ∧ 65536 ≤ r ∧ r ≤ 1114111 ∧ 4 ≤ n ∧ b0 = 240 + r / 262144 ∧ b1 = 128 + r / 4096 % 64 ∧ b2 = 128 + r / 64 % 64 ∧ b3 = 128 + r % 64) := by
  unfold decodeN
  split
  · exact .inr (.inl ⟨b0, rfl, by omega, rfl⟩)
  split
  · split
    · exact .inr (.inr (.inl ⟨_, rfl, by omega, by omega, by omega, by omega, by omega⟩))
    · exact .inl rfl
  split
  · split
    · exact .inr (.inr (.inr (.inl ⟨_, rfl, by omega, by omega, by omega, by omega, by omega, by omega⟩)))
    · exact .inl rfl
  split
  · split
    · exact .inr (.inr (.inr (.inr ⟨_, rfl, by omega, by omega, by omega, by omega, by omega, by omega, by omega⟩)))
    · exact .inl rfl
  · exact .inl rfl
theorem dec_take (l : List UInt8) (hne : l ≠ []) (hb : dec l ≠ (65533, 1)) : l = u8 (dec l).1 ++ l.drop (dec l).2 ∧ (u8 (dec l).1).length = (dec l).2 := by
  have hn : 1 ≤ l.length := List.length_pos_iff.2 hne
  unfold dec at hb ⊢
  rcases decodeN_forms l.length (at0 l 0) (at0 l 1) (at0 l 2) (at0 l 3) (at0_lt _ _) (at0_lt _ _) (at0_lt _ _) (at0_lt _ _) hn with h | ⟨r, h, a, b⟩ | ⟨r, h, a, a', n2, b, c⟩ | ⟨r, h, a, a', n3, b, c, d⟩ | ⟨r, h, a, a', n4, b, c, d, e⟩
  · exact absurd h hb
  · rw [h]
    have e1 : u8 r = bs [r] := by simp [u8, u8N, a]
    simp only [e1]
    exact ⟨split_one l r hn b, by simp [bs]⟩
  · rw [h]
    have e1 : u8 r = bs [192 + r / 64, 128 + r % 64] := by simp [u8, u8N, a', show ¬ r < 128 by omega]
    simp only [e1]
    exact ⟨split_two l _ _ n2 b c, by simp [bs]⟩
  · rw [h]
    have e1 : u8 r = bs [224 + r / 4096, 128 + r / 64 % 64, 128 + r % 64] := by simp [u8, u8N, a', show ¬ r < 128 by omega, show ¬ r < 2048 by omega]
    simp only [e1]
    exact ⟨split_three l _ _ _ n3 b c d, by simp [bs]⟩
  · rw [h]
    have e1 : u8 r = bs [240 + r / 262144, 128 + r / 4096 % 64, 128 + r / 64 % 64, 128 + r % 64] := by simp [u8, u8N, show ¬ r < 65536 by omega, show ¬ r < 128 by omega, show ¬ r < 2048 by omega]
    simp only [e1]
    exact ⟨split_four l _ _ _ _ n4 b c d e, by simp [bs]⟩
def decs : Nat → List UInt8 → List (Nat × Nat)
  | 0, _ => []
  | f + 1, l => if l = [] then [] else dec l :: decs f (l.drop (dec l).2)
def steps (l : List UInt8) : List (Nat × Nat) := decs l.length l
theorem decs_fuel : ∀ (f g : Nat) (l : List UInt8), l.length ≤ f → l.length ≤ g → decs f l = decs g l
  | 0, 0, _, _, _ => rfl
  | 0, g + 1, l, h, _ => by
    have : l = [] := List.eq_nil_of_length_eq_zero (by omega)
    simp [decs, this]
  | f + 1, 0, l, _, h => by
    have : l = [] := List.eq_nil_of_length_eq_zero (by omega)
    simp [decs, this]
  | f + 1, g + 1, l, h1, h2 => by
    unfold decs
    by_cases hne : l = []
    · simp [hne]
    · have := (dec_width l).1
      have hp := List.length_pos_iff.2 hne
      rw [if_neg hne, if_neg hne, decs_fuel f g (l.drop (dec l).2) (by rw [List.length_drop]; omega) (by rw [List.length_drop]; omega)]
theorem steps_nil : steps [] = [] := rfl
theorem steps_cons (l : List UInt8) (h : l ≠ []) : steps l = dec l :: steps (l.drop (dec l).2) := by
  have hp := List.length_pos_iff.2 h
  have := (dec_width l).1
  obtain ⟨n, hn⟩ : ∃ n, l.length = n + 1 := ⟨l.length - 1, by omega⟩
  unfold steps
  rw [hn]
  show (if l = [] then [] else _) = _
  rw [if_neg h, decs_fuel n (l.drop (dec l).2).length _ (by rw [List.length_drop]; omega) (Nat.le_refl _)]
theorem steps_length (l : List UInt8) : (steps l).length ≤ l.length := by
  have : ∀ (f : Nat) (l : List UInt8), (decs f l).length ≤ f := by
    intro f
    induction f with
    | zero => intro l; simp [decs]
    | succ f ih =>
      intro l
      unfold decs
      split
      · simp
      · simp; exact ih _
  exact this _ _
/-- Induction along the steps. -/
theorem steps_ind {p : List UInt8 → Prop} (hn : p []) (hc : ∀ l, l ≠ [] → p (l.drop (dec l).2) → p l) (l : List UInt8) : p l := by
  have : ∀ (n : Nat) (l : List UInt8), l.length ≤ n → p l := by
    intro n
    induction n with
    | zero => intro l h; rw [List.eq_nil_of_length_eq_zero (Nat.le_zero.1 h)]; exact hn
    | succ n ih =>
      intro l h
      by_cases hne : l = []
      · rw [hne]; exact hn
      · have := (dec_width l).1
        have hp := List.length_pos_iff.2 hne
        exact hc l hne (ih _ (by rw [List.length_drop]; omega))
  exact this _ l (Nat.le_refl _)
def validL (l : List UInt8) : Bool := (steps l).all fun p => !bad p
def runes (l : List UInt8) : List Nat := (steps l).map Prod.fst
theorem validL_nil : validL [] = true := rfl
theorem runes_nil : runes [] = [] := rfl
theorem validL_cons (l : List UInt8) (h : l ≠ []) : validL l = (!bad (dec l) && validL (l.drop (dec l).2)) := by
  simp [validL, steps_cons l h]
theorem runes_cons (l : List UInt8) (h : l ≠ []) : runes l = (dec l).1 :: runes (l.drop (dec l).2) := by
  simp [runes, steps_cons l h]
theorem runes_length_le (l : List UInt8) : (runes l).length ≤ l.length := by simpa [runes] using steps_length l
theorem runes_scal (l : List UInt8) : ∀ r ∈ runes l, Scal r := by
  refine steps_ind (p := fun l => ∀ r ∈ runes l, Scal r) (by simp [runes_nil]) ?_ l
  intro l hne ih r hr
  rw [runes_cons l hne] at hr
  rcases List.mem_cons.1 hr with rfl | h
  · exact dec_scal l
  · exact ih r h
/-- A text is the UTF-8 of its runes. -/
theorem valid_u8 (l : List UInt8) : validL l = true → (runes l).flatMap u8 = l := by
  refine steps_ind (p := fun l => validL l = true → (runes l).flatMap u8 = l) (by intro _; rfl) ?_ l
  intro l hne ih hv
  rw [validL_cons l hne] at hv
  simp only [Bool.and_eq_true, Bool.not_eq_true', bad, decide_eq_false_iff_not] at hv
  rw [runes_cons l hne, List.flatMap_cons, ih hv.2]
  exact (dec_take l hne hv.1).1.symm
theorem u8_ne (r : Nat) : u8 r ≠ [] := by
  unfold u8 u8N bs
  repeat' split
  all_goals simp
theorem u8_cons_ne (r : Nat) (t : List UInt8) : u8 r ++ t ≠ [] := by simp [u8_ne]
theorem bad_u8 (r : Nat) (t : List UInt8) (h : Scal r) : bad (dec (u8 r ++ t)) = false := by
  rw [dec_u8 r t h]
  simp only [bad, decide_eq_false_iff_not, Prod.mk.injEq, not_and]
  rintro rfl
  decide
theorem steps_u8 (r : Nat) (t : List UInt8) (h : Scal r) : steps (u8 r ++ t) = (r, (u8 r).length) :: steps t := by
  rw [steps_cons _ (u8_cons_ne r t), dec_u8 r t h]
  simp
theorem runes_u8 : ∀ (rs : List Nat), (∀ r ∈ rs, Scal r) → runes (rs.flatMap u8) = rs ∧ validL (rs.flatMap u8) = true
  | [], _ => ⟨rfl, rfl⟩
  | r :: rs, h => by
    have ih := runes_u8 rs (fun x hx => h x (by simp [hx]))
    have hr := h r (by simp)
    constructor
    · show (steps (u8 r ++ rs.flatMap u8)).map Prod.fst = _
      rw [steps_u8 r _ hr]
      show r :: runes _ = _
      rw [ih.1]
    · show (steps (u8 r ++ rs.flatMap u8)).all _ = _
      rw [steps_u8 r _ hr, List.all_cons]
      have hb := bad_u8 r [] hr
      rw [dec_u8 r [] hr] at hb
      rw [hb]
      show (true && validL _) = true
      rw [ih.2]; rfl
/-- Behind a text the steps go on as at the beginning. -/
theorem steps_append (l t : List UInt8) : validL l = true → steps (l ++ t) = steps l ++ steps t := by
  intro hv
  have hs := runes_scal l
  rw [← valid_u8 l hv]
  generalize runes l = rs at hs
  clear hv
  induction rs with
  | nil => simp [steps_nil]
  | cons r rs ih =>
    have hr := hs r (by simp)
    have ih' := ih (fun x hx => hs x (by simp [hx]))
    rw [List.flatMap_cons, List.append_assoc, steps_u8 r _ hr, steps_u8 r _ hr, ih']
    rfl
theorem runes_append (l t : List UInt8) (h : validL l = true) : runes (l ++ t) = runes l ++ runes t := by simp [runes, steps_append l t h]
theorem valid_append (l t : List UInt8) (h : validL l = true) : validL (l ++ t) = validL t := by
  simp only [validL, steps_append l t h, List.all_append]
  have : (steps l).all (fun p => !bad p) = true := h
  rw [this, Bool.true_and]
end Go.Proofs.Ytamafgpconfipaa
