/-
  PRUNED by wip/tools/prunem.py: what these texts need of an earlier stage's.
-/
import Derived.Lib.DecodeN
import Derived.Laws.Cover4
set_option linter.unusedVariables false
set_option linter.unusedSimpArgs false
namespace Go.Proofs.Ytcgloepfnnfioaa
open Go.Lib (decodeN decode_at)

def at0 (l : List UInt8) (i : Nat) : Nat := (l.getD i 0).toNat
theorem at0_lt (l : List UInt8) (i : Nat) : at0 l i < 256 := UInt8.toNat_lt _
theorem at0_drop (l : List UInt8) (k i : Nat) : at0 (l.drop k) i = at0 l (k + i) := by simp [at0, List.getD, List.getElem?_drop]
/-- The first rune of l, and its width, as a range over a string tells them. -/
def dec (l : List UInt8) : Nat × Nat := decodeN l.length (at0 l 0) (at0 l 1) (at0 l 2) (at0 l 3)
theorem get_getD (s : ByteArray) (i : Nat) : (s.get! i) = s.data.toList.getD i 0 := by
  cases s with
  | mk d =>
    show d[i]! = d.toList.getD i 0
    by_cases h : i < d.size
    · rw [getElem!_pos d i h]; simp [List.getD, h]
    · rw [getElem!_neg d i h]; simp [List.getD, h]; rfl
theorem decode_drop (s : ByteArray) (pos : Nat) : Utf8.decode s pos = dec (s.data.toList.drop pos) := by
  rw [decode_at]
  have hz : s.size - pos = (s.data.toList.drop pos).length := by simp
  simp only [dec, at0_drop, hz]
  simp only [at0, get_getD, Nat.add_zero]
theorem decodeN_width (n b0 b1 b2 b3 : Nat) : 1 ≤ (decodeN n b0 b1 b2 b3).2 ∧ (decodeN n b0 b1 b2 b3).2 ≤ 4 ∧ (1 ≤ n → (decodeN n b0 b1 b2 b3).2 ≤ n) := by
  unfold decodeN
  repeat' split
  all_goals simp only
  all_goals omega
theorem dec_width (l : List UInt8) : 1 ≤ (dec l).2 ∧ (dec l).2 ≤ 4 := ⟨(decodeN_width _ _ _ _ _).1, (decodeN_width _ _ _ _ _).2.1⟩
theorem dec_width_le (l : List UInt8) (h : l ≠ []) : (dec l).2 ≤ l.length := (decodeN_width _ _ _ _ _).2.2 (List.length_pos_iff.2 h)
theorem decodeN_rune (n b0 b1 b2 b3 : Nat) (h0 : b0 < 256) : (decodeN n b0 b1 b2 b3).1 ≤ 1114111 := by
  unfold decodeN
  repeat' split
  all_goals simp only
  all_goals omega
theorem dec_rune (l : List UInt8) : (dec l).1 ≤ 1114111 := decodeN_rune _ _ _ _ _ (at0_lt _ _)
/-- A scalar value. -/
def Scal (r : Nat) : Prop := r < 55296 ∨ (57344 ≤ r ∧ r ≤ 1114111)
instance (r : Nat) : Decidable (Scal r) := by unfold Scal; infer_instance
theorem decodeN_scal (n b0 b1 b2 b3 : Nat) (h0 : b0 < 256) : Scal (decodeN n b0 b1 b2 b3).1 := by
  unfold decodeN Scal
  repeat' split
  all_goals simp only
  all_goals omega
theorem dec_scal (l : List UInt8) : Scal (dec l).1 := decodeN_scal _ _ _ _ _ (at0_lt _ _)
/-- The bytes of a rune in UTF-8 (numbers). -/
def u8N (r : Nat) : List Nat :=
  if r < 128 then [r] else if r < 2048 then [192 + r / 64, 128 + r % 64]
  else if r < 65536 then [224 + r / 4096, 128 + r / 64 % 64, 128 + r % 64]
  else [240 + r / 262144, 128 + r / 4096 % 64, 128 + r / 64 % 64, 128 + r % 64]
def bs (l : List Nat) : List UInt8 := l.map UInt8.ofNat
def u8 (r : Nat) : List UInt8 := bs (u8N r)
theorem valid_of_scal {r : Nat} (h : Scal r) : Utf8.valid (r : Int) = true := by
  unfold Scal at h
  simp [Utf8.valid]
  omega
theorem encode_u8 {r : Nat} (h : Scal r) : Utf8.encode (r : Int) = ⟨(u8 r).toArray⟩ := by
  simp only [Utf8.encode, valid_of_scal h, if_true, Int.toNat_natCast, u8, u8N, bs]
  repeat' split
  all_goals simp
/-- Sixteen bits in modified UTF-8 (numbers). -/
def unN (r : Nat) : List Nat :=
  if 1 ≤ r ∧ r < 128 then [r] else if r < 2048 then [192 + r / 64, 128 + r % 64]
  else [224 + r / 4096, 128 + r / 64 % 64, 128 + r % 64]
def un (r : Nat) : List UInt8 := bs (unN r)
/-- The bytes of a rune in modified UTF-8. -/
def mb (r : Nat) : List UInt8 := if r < 65536 then un r else un (55296 + (r - 65536) / 1024) ++ un (56320 + (r - 65536) % 1024)
theorem bs_length (l : List Nat) : (bs l).length = l.length := by simp [bs]
theorem at0_bs (l : List Nat) (t : List UInt8) (i : Nat) (hi : i < l.length) (hb : ∀ x ∈ l, x < 256) : at0 (bs l ++ t) i = l[i] := by
  have h1 : i < (bs l).length := by simpa [bs] using hi
  have : l[i] < 256 := hb _ (List.getElem_mem hi)
  simp only [at0, List.getD, List.getElem?_append_left h1, List.getElem?_eq_getElem h1, Option.getD_some]
  simp [bs]
  omega
set_option maxHeartbeats 1000000 in
theorem dec_u8 (r : Nat) (t : List UInt8) (h : Scal r) : dec (u8 r ++ t) = (r, (u8 r).length) := by
  unfold Scal at h
  have key : ∀ l : List Nat, u8N r = l → (∀ x ∈ l, x < 256) → dec (u8 r ++ t) = decodeN (l.length + t.length) (at0 (bs l ++ t) 0) (at0 (bs l ++ t) 1) (at0 (bs l ++ t) 2) (at0 (bs l ++ t) 3) ∧ (u8 r).length = l.length := by
    rintro l rfl hb
    unfold dec u8
    simp [bs_length]
  by_cases h1 : r < 128
  · obtain ⟨e, e2⟩ := key [r] (by simp [u8N, h1]) (by simp; omega)
    rw [e, e2, at0_bs _ _ 0 (by simp) (by simp; omega)]
    simp [decodeN, h1]
  by_cases h2 : r < 2048
  · have hb : ∀ x ∈ [192 + r / 64, 128 + r % 64], x < 256 := by simp; omega
    obtain ⟨e, e2⟩ := key [192 + r / 64, 128 + r % 64] (by simp [u8N, h1, h2]) hb
    rw [e, e2, at0_bs _ _ 0 (by simp) hb, at0_bs _ _ 1 (by simp) hb]
    simp only [List.getElem_cons_zero, List.getElem_cons_succ, List.length_cons, List.length_nil]
    unfold decodeN
    repeat' split
    all_goals first | (exfalso; omega) | (apply Prod.ext <;> simp only <;> omega)
  by_cases h3 : r < 65536
  · have hb : ∀ x ∈ [224 + r / 4096, 128 + r / 64 % 64, 128 + r % 64], x < 256 := by simp; omega
    obtain ⟨e, e2⟩ := key [224 + r / 4096, 128 + r / 64 % 64, 128 + r % 64] (by simp [u8N, h1, h2, h3]) hb
    rw [e, e2, at0_bs _ _ 0 (by simp) hb, at0_bs _ _ 1 (by simp) hb, at0_bs _ _ 2 (by simp) hb]
    simp only [List.getElem_cons_zero, List.getElem_cons_succ, List.length_cons, List.length_nil]
    unfold decodeN
    repeat' split
    all_goals first | (exfalso; omega) | (apply Prod.ext <;> simp only <;> omega)
  · have hb : ∀ x ∈ [240 + r / 262144, 128 + r / 4096 % 64, 128 + r / 64 % 64, 128 + r % 64], x < 256 := by simp; omega
    obtain ⟨e, e2⟩ := key [240 + r / 262144, 128 + r / 4096 % 64, 128 + r / 64 % 64, 128 + r % 64] (by simp [u8N, h1, h2, h3]) hb
    rw [e, e2, at0_bs _ _ 0 (by simp) hb, at0_bs _ _ 1 (by simp) hb, at0_bs _ _ 2 (by simp) hb, at0_bs _ _ 3 (by simp) hb]
    simp only [List.getElem_cons_zero, List.getElem_cons_succ, List.length_cons, List.length_nil]
    unfold decodeN
    repeat' split
    all_goals first | (exfalso; omega) | (apply Prod.ext <;> simp only <;> omega)
/-- The bad step. -/
def bad (p : Nat × Nat) : Bool := decide (p = (65533, 1))
theorem split_one (l : List UInt8) (x0 : Nat) (hn : 1 ≤ l.length) (h0 : at0 l 0 = x0) : l = bs [x0] ++ l.drop 1 := by
  match l, hn with
  | a :: t, _ => subst h0; simp [bs, at0]
theorem split_two (l : List UInt8) (x0 x1 : Nat) (hn : 2 ≤ l.length) (h0 : at0 l 0 = x0) (h1 : at0 l 1 = x1) : l = bs [x0, x1] ++ l.drop 2 := by
  match l, hn with
  | a :: b :: t, _ => subst h0 h1; simp [bs, at0]
theorem split_three (l : List UInt8) (x0 x1 x2 : Nat) (hn : 3 ≤ l.length) (h0 : at0 l 0 = x0) (h1 : at0 l 1 = x1) (h2 : at0 l 2 = x2) : l = bs [x0, x1, x2] ++ l.drop 3 := by
  match l, hn with
  | a :: b :: c :: t, _ => subst h0 h1 h2; simp [bs, at0]
theorem split_four (l : List UInt8) (x0 x1 x2 x3 : Nat) (hn : 4 ≤ l.length) (h0 : at0 l 0 = x0) (h1 : at0 l 1 = x1) (h2 : at0 l 2 = x2) (h3 : at0 l 3 = x3) : l = bs [x0, x1, x2, x3] ++ l.drop 4 := by
  match l, hn with
  | a :: b :: c :: d :: t, _ => subst h0 h1 h2 h3; simp [bs, at0]
/-- What decodeN tells: bad, or one of four forms. -/
theorem decodeN_forms (n b0 b1 b2 b3 : Nat) (h0 : b0 < 256) (h1 : b1 < 256) (h2 : b2 < 256) (h3 : b3 < 256) (hn : 1 ≤ n) :
    decodeN n b0 b1 b2 b3 = (65533, 1) ∨
    (∃ r, decodeN n b0 b1 b2 b3 = (r, 1) ∧ r < 128 ∧ b0 = r) ∨
    (∃ r, decodeN n b0 b1 b2 b3 = (r, 2) ∧ 128 ≤ r ∧ r < 2048 ∧ 2 ≤ n ∧ b0 = 192 + r / 64 ∧ b1 = 128 + r % 64) ∨
    (∃ r, decodeN n b0 b1 b2 b3 = (r, 3) ∧ 2048 ≤ r ∧ r < 65536 ∧ 3 ≤ n ∧ b0 = 224 + r / 4096 ∧ b1 = 128 + r / 64 % 64 ∧ b2 = 128 + r % 64) ∨
    (∃ r, decodeN n b0 b1 b2 b3 = (r, 4) ∧ 65536 ≤ r ∧ r ≤ 1114111 ∧ 4 ≤ n ∧ b0 = 240 + r / 262144 ∧ b1 = 128 + r / 4096 % 64 ∧ b2 = 128 + r / 64 % 64 ∧ b3 = 128 + r % 64) := by
  unfold decodeN
  split
  · exact .inr (.inl ⟨b0, rfl, by omega, rfl⟩)
  split
  · split
    · exact .inr (.inr (.inl ⟨_, rfl, by omega, by omega, by omega, by omega, by omega⟩))
    · exact .inl rfl
  split
  · split
    · exact .inr (.inr (.inr (.inl ⟨_, rfl, by omega, by omega, by omega, by omega, by omega, by omega⟩)))
    · exact .inl rfl
  split
  · split
    · exact .inr (.inr (.inr (.inr ⟨_, rfl, by omega, by omega, by omega, by omega, by omega, by omega, by omega⟩)))
    · exact .inl rfl
  · exact .inl rfl
theorem dec_take (l : List UInt8) (hne : l ≠ []) (hb : dec l ≠ (65533, 1)) : l = u8 (dec l).1 ++ l.drop (dec l).2 ∧ (u8 (dec l).1).length = (dec l).2 := by
  have hn : 1 ≤ l.length := List.length_pos_iff.2 hne
  unfold dec at hb ⊢
  rcases decodeN_forms l.length (at0 l 0) (at0 l 1) (at0 l 2) (at0 l 3) (at0_lt _ _) (at0_lt _ _) (at0_lt _ _) (at0_lt _ _) hn with h | ⟨r, h, a, b⟩ | ⟨r, h, a, a', n2, b, c⟩ | ⟨r, h, a, a', n3, b, c, d⟩ | ⟨r, h, a, a', n4, b, c, d, e⟩
  · exact absurd h hb
  · rw [h]
    have e1 : u8 r = bs [r] := by simp [u8, u8N, a]
    simp only [e1]
    exact ⟨split_one l r hn b, by simp [bs]⟩
  · rw [h]
    have e1 : u8 r = bs [192 + r / 64, 128 + r % 64] := by simp [u8, u8N, a', show ¬ r < 128 by omega]
    simp only [e1]
    exact ⟨split_two l _ _ n2 b c, by simp [bs]⟩
  · rw [h]
    have e1 : u8 r = bs [224 + r / 4096, 128 + r / 64 % 64, 128 + r % 64] := by simp [u8, u8N, a', show ¬ r < 128 by omega, show ¬ r < 2048 by omega]
    simp only [e1]
    exact ⟨split_three l _ _ _ n3 b c d, by simp [bs]⟩
  · rw [h]
    have e1 : u8 r = bs [240 + r / 262144, 128 + r / 4096 % 64, 128 + r / 64 % 64, 128 + r % 64] := by simp [u8, u8N, show ¬ r < 65536 by omega, show ¬ r < 128 by omega, show ¬ r < 2048 by omega]
    simp only [e1]
    exact ⟨split_four l _ _ _ _ n4 b c d e, by simp [bs]⟩
def decs : Nat → List UInt8 → List (Nat × Nat)
  | 0, _ => []
  | f + 1, l => if l = [] then [] else dec l :: decs f (l.drop (dec l).2)
def steps (l : List UInt8) : List (Nat × Nat) := decs l.length l
theorem decs_fuel : ∀ (f g : Nat) (l : List UInt8), l.length ≤ f → l.length ≤ g → decs f l = decs g l
  | 0, 0, _, _, _ => rfl
  | 0, g + 1, l, h, _ => by
    have : l = [] := List.eq_nil_of_length_eq_zero (by omega)
    simp [decs, this]
  | f + 1, 0, l, _, h => by
    have : l = [] := List.eq_nil_of_length_eq_zero (by omega)
    simp [decs, this]
  | f + 1, g + 1, l, h1, h2 => by
    unfold decs
    by_cases hne : l = []
    · simp [hne]
    · have := (dec_width l).1
      have hp := List.length_pos_iff.2 hne
      rw [if_neg hne, if_neg hne, decs_fuel f g (l.drop (dec l).2) (by rw [List.length_drop]; omega) (by rw [List.length_drop]; omega)]
theorem steps_cons (l : List UInt8) (h : l ≠ []) : steps l = dec l :: steps (l.drop (dec l).2) := by
  have hp := List.length_pos_iff.2 h
  have := (dec_width l).1
  obtain ⟨n, hn⟩ : ∃ n, l.length = n + 1 := ⟨l.length - 1, by omega⟩
  unfold steps
  rw [hn]
  show (if l = [] then [] else _) = _
  rw [if_neg h, decs_fuel n (l.drop (dec l).2).length _ (by rw [List.length_drop]; omega) (Nat.le_refl _)]
theorem steps_length (l : List UInt8) : (steps l).length ≤ l.length := by
  have : ∀ (f : Nat) (l : List UInt8), (decs f l).length ≤ f := by
    intro f
    induction f with
    | zero => intro l; simp [decs]
    | succ f ih =>
      intro l
      unfold decs
      split
      · simp
      · simp; exact ih _
  exact this _ _
/-- Induction along the steps. -/
theorem steps_ind {p : List UInt8 → Prop} (hn : p []) (hc : ∀ l, l ≠ [] → p (l.drop (dec l).2) → p l) (l : List UInt8) : p l := by
  have : ∀ (n : Nat) (l : List UInt8), l.length ≤ n → p l := by
    intro n
    induction n with
    | zero => intro l h; rw [List.eq_nil_of_length_eq_zero (Nat.le_zero.1 h)]; exact hn
    | succ n ih =>
      intro l h
      by_cases hne : l = []
      · rw [hne]; exact hn
      · have := (dec_width l).1
        have hp := List.length_pos_iff.2 hne
        exact hc l hne (ih _ (by rw [List.length_drop]; omega))
  exact this _ l (Nat.le_refl _)
def validL (l : List UInt8) : Bool := (steps l).all fun p => !bad p
def runes (l : List UInt8) : List Nat := (steps l).map Prod.fst
theorem validL_nil : validL [] = true := rfl
theorem runes_nil : runes [] = [] := rfl
theorem validL_cons (l : List UInt8) (h : l ≠ []) : validL l = (!bad (dec l) && validL (l.drop (dec l).2)) := by
  simp [validL, steps_cons l h]
theorem runes_cons (l : List UInt8) (h : l ≠ []) : runes l = (dec l).1 :: runes (l.drop (dec l).2) := by
  simp [runes, steps_cons l h]
theorem runes_length_le (l : List UInt8) : (runes l).length ≤ l.length := by simpa [runes] using steps_length l
theorem runes_scal (l : List UInt8) : ∀ r ∈ runes l, Scal r := by
  refine steps_ind (p := fun l => ∀ r ∈ runes l, Scal r) (by simp [runes_nil]) ?_ l
  intro l hne ih r hr
  rw [runes_cons l hne] at hr
  rcases List.mem_cons.1 hr with rfl | h
  · exact dec_scal l
  · exact ih r h
/-- A text is the UTF-8 of its runes. -/
theorem valid_u8 (l : List UInt8) : validL l = true → (runes l).flatMap u8 = l := by
  refine steps_ind (p := fun l => validL l = true → (runes l).flatMap u8 = l) (by intro _; rfl) ?_ l
  intro l hne ih hv
  rw [validL_cons l hne] at hv
  simp only [Bool.and_eq_true, Bool.not_eq_true', bad, decide_eq_false_iff_not] at hv
  rw [runes_cons l hne, List.flatMap_cons, ih hv.2]
  exact (dec_take l hne hv.1).1.symm
theorem bad_u8 (r : Nat) (t : List UInt8) (h : Scal r) : bad (dec (u8 r ++ t)) = false := by
  rw [dec_u8 r t h]
  simp only [bad, decide_eq_false_iff_not, Prod.mk.injEq, not_and]
  rintro rfl
  decide
/-- Sixteen bits at the front, and how many bytes they have; (0, 0): there are none. -/
def unitN (n b0 b1 b2 : Nat) : Nat × Nat :=
  if n = 0 then (0, 0)
  else if b0 < 128 then (if b0 = 0 then (0, 0) else (b0, 1))
  else if 192 ≤ b0 ∧ b0 < 224 then (if 2 ≤ n ∧ b1 / 64 = 2 ∧ (b0 % 32 * 64 + b1 % 64 = 0 ∨ 128 ≤ b0 % 32 * 64 + b1 % 64) then (b0 % 32 * 64 + b1 % 64, 2) else (0, 0))
  else if 224 ≤ b0 ∧ b0 < 240 then (if 3 ≤ n ∧ b1 / 64 = 2 ∧ b2 / 64 = 2 ∧ 2048 ≤ b0 % 16 * 4096 + b1 % 64 * 64 + b2 % 64 then (b0 % 16 * 4096 + b1 % 64 * 64 + b2 % 64, 3) else (0, 0))
  else (0, 0)
def unitL (l : List UInt8) : Nat × Nat := unitN l.length (at0 l 0) (at0 l 1) (at0 l 2)
theorem unitN_forms (n b0 b1 b2 : Nat) (h0 : b0 < 256) (h1 : b1 < 256) (h2 : b2 < 256) :
    unitN n b0 b1 b2 = (0, 0) ∨
    (∃ r, unitN n b0 b1 b2 = (r, 1) ∧ 1 ≤ r ∧ r < 128 ∧ 1 ≤ n ∧ b0 = r) ∨
    (∃ r, unitN n b0 b1 b2 = (r, 2) ∧ (r = 0 ∨ 128 ≤ r) ∧ r < 2048 ∧ 2 ≤ n ∧ b0 = 192 + r / 64 ∧ b1 = 128 + r % 64) ∨
    (∃ r, unitN n b0 b1 b2 = (r, 3) ∧ 2048 ≤ r ∧ r < 65536 ∧ 3 ≤ n ∧ b0 = 224 + r / 4096 ∧ b1 = 128 + r / 64 % 64 ∧ b2 = 128 + r % 64) := by
  unfold unitN
  split
  · exact .inl rfl
  split
  · split
    · exact .inl rfl
    · exact .inr (.inl ⟨_, rfl, by omega, by omega, by omega, rfl⟩)
  split
  · split
    · exact .inr (.inr (.inl ⟨_, rfl, by omega, by omega, by omega, by omega, by omega⟩))
    · exact .inl rfl
  split
  · split
    · exact .inr (.inr (.inr ⟨_, rfl, by omega, by omega, by omega, by omega, by omega, by omega⟩))
    · exact .inl rfl
  · exact .inl rfl
theorem un_length (r : Nat) : 1 ≤ (un r).length ∧ (un r).length ≤ 3 := by
  unfold un unN bs
  repeat' split
  all_goals simp
theorem unitL_take (l : List UInt8) (h : (unitL l).2 ≠ 0) : l = un (unitL l).1 ++ l.drop (unitL l).2 ∧ (un (unitL l).1).length = (unitL l).2 ∧ (unitL l).1 < 65536 := by
  unfold unitL at h ⊢
  rcases unitN_forms l.length (at0 l 0) (at0 l 1) (at0 l 2) (at0_lt _ _) (at0_lt _ _) (at0_lt _ _) with e | ⟨r, e, a, a', hn, b⟩ | ⟨r, e, a, a', n2, b, c⟩ | ⟨r, e, a, a', n3, b, c, d⟩
  · rw [e] at h; simp at h
  · rw [e]
    have e1 : un r = bs [r] := by simp [un, unN, a, a']
    simp only [e1]
    exact ⟨split_one l r hn b, by simp [bs], by omega⟩
  · rw [e]
    have e1 : un r = bs [192 + r / 64, 128 + r % 64] := by simp [un, unN, a', show ¬ (1 ≤ r ∧ r < 128) by omega]
    simp only [e1]
    exact ⟨split_two l _ _ n2 b c, by simp [bs], by omega⟩
  · rw [e]
    have e1 : un r = bs [224 + r / 4096, 128 + r / 64 % 64, 128 + r % 64] := by simp [un, unN, show ¬ (1 ≤ r ∧ r < 128) by omega, show ¬ r < 2048 by omega]
    simp only [e1]
    exact ⟨split_three l _ _ _ n3 b c d, by simp [bs], by omega⟩
set_option maxHeartbeats 1000000 in
theorem unitL_un (r : Nat) (t : List UInt8) (h : r < 65536) : unitL (un r ++ t) = (r, (un r).length) := by
  have key : ∀ l : List Nat, unN r = l → unitL (un r ++ t) = unitN (l.length + t.length) (at0 (bs l ++ t) 0) (at0 (bs l ++ t) 1) (at0 (bs l ++ t) 2) ∧ (un r).length = l.length := by
    rintro l rfl
    unfold unitL un
    simp [bs_length]
  by_cases h1 : 1 ≤ r ∧ r < 128
  · obtain ⟨e, e2⟩ := key [r] (by simp [unN, h1])
    rw [e, e2, at0_bs _ _ 0 (by simp) (by simp; omega)]
    simp only [List.getElem_cons_zero, List.length_cons, List.length_nil]
    unfold unitN
    repeat' split
    all_goals first | (exfalso; omega) | rfl
  by_cases h2 : r < 2048
  · have hb : ∀ x ∈ [192 + r / 64, 128 + r % 64], x < 256 := by simp; omega
    obtain ⟨e, e2⟩ := key [192 + r / 64, 128 + r % 64] (by simp only [unN, if_neg h1, if_pos h2])
    rw [e, e2, at0_bs _ _ 0 (by simp) hb, at0_bs _ _ 1 (by simp) hb]
    simp only [List.getElem_cons_zero, List.getElem_cons_succ, List.length_cons, List.length_nil]
    unfold unitN
    repeat' split
    all_goals first | (exfalso; omega) | (apply Prod.ext <;> simp only <;> omega)
  · have hb : ∀ x ∈ [224 + r / 4096, 128 + r / 64 % 64, 128 + r % 64], x < 256 := by simp; omega
    obtain ⟨e, e2⟩ := key [224 + r / 4096, 128 + r / 64 % 64, 128 + r % 64] (by simp only [unN, if_neg h1, if_neg h2])
    rw [e, e2, at0_bs _ _ 0 (by simp) hb, at0_bs _ _ 1 (by simp) hb, at0_bs _ _ 2 (by simp) hb]
    simp only [List.getElem_cons_zero, List.getElem_cons_succ, List.length_cons, List.length_nil]
    unfold unitN
    repeat' split
    all_goals first | (exfalso; omega) | (apply Prod.ext <;> simp only <;> omega)
/-- The first rune of modified UTF-8, and how many bytes it has; (0, 0): there is none. -/
def mdec (l : List UInt8) : Nat × Nat :=
  if (unitL l).2 = 0 then (0, 0) else if Scal (unitL l).1 then unitL l
  else if (unitL l).1 ≤ 56319 ∧ 56320 ≤ (unitL (l.drop (unitL l).2)).1 ∧ (unitL (l.drop (unitL l).2)).1 ≤ 57343
    then (65536 + ((unitL l).1 - 55296) * 1024 + ((unitL (l.drop (unitL l).2)).1 - 56320), (unitL l).2 + (unitL (l.drop (unitL l).2)).2)
  else (0, 0)
theorem unitL_zero (l : List UInt8) (h : (unitL l).2 = 0) : unitL l = (0, 0) := by
  unfold unitL at h ⊢
  rcases unitN_forms l.length (at0 l 0) (at0 l 1) (at0 l 2) (at0_lt _ _) (at0_lt _ _) (at0_lt _ _) with e | ⟨r, e, _⟩ | ⟨r, e, _⟩ | ⟨r, e, _⟩
  · exact e
  all_goals rw [e] at h; simp at h
theorem mdec_mb (r : Nat) (t : List UInt8) (h : Scal r) : mdec (mb r ++ t) = (r, (mb r).length) := by
  unfold mb
  by_cases h1 : r < 65536
  · rw [if_pos h1]
    unfold mdec
    have hl := (un_length r).1
    rw [unitL_un r t h1]
    simp only
    rw [if_neg (by omega), if_pos h]
  · have h2 : r ≤ 1114111 := by unfold Scal at h; omega
    rw [if_neg h1, List.append_assoc]
    unfold mdec
    have ha : 55296 + (r - 65536) / 1024 < 65536 := by omega
    have hb : 56320 + (r - 65536) % 1024 < 65536 := by omega
    have hl := (un_length (55296 + (r - 65536) / 1024)).1
    rw [unitL_un _ _ ha]
    simp only [List.drop_left]
    rw [unitL_un _ _ hb]
    simp only
    rw [if_neg (by omega), if_neg (by unfold Scal; omega), if_pos (by omega)]
    apply Prod.ext
    · simp only; omega
    · simp
theorem mdec_take (l : List UInt8) (h : (mdec l).2 ≠ 0) : l = mb (mdec l).1 ++ l.drop (mdec l).2 ∧ (mb (mdec l).1).length = (mdec l).2 ∧ Scal (mdec l).1 := by
  unfold mdec at h ⊢
  by_cases h0 : (unitL l).2 = 0
  · rw [if_pos h0] at h; simp at h
  rw [if_neg h0] at h ⊢
  obtain ⟨e1, e2, e3⟩ := unitL_take l h0
  by_cases h1 : Scal (unitL l).1
  · rw [if_pos h1] at h ⊢
    unfold mb
    rw [if_pos e3]
    exact ⟨e1, e2, h1⟩
  rw [if_neg h1] at h ⊢
  generalize hu : (unitL l).1 = u at *
  generalize hm : (unitL l).2 = n at *
  by_cases h2 : u ≤ 56319 ∧ 56320 ≤ (unitL (l.drop n)).1 ∧ (unitL (l.drop n)).1 ≤ 57343
  · rw [if_pos h2] at h ⊢
    have hz : (unitL (l.drop n)).2 ≠ 0 := by
      intro hz
      rw [unitL_zero _ hz] at h2
      simp at h2
    obtain ⟨f1, f2, f3⟩ := unitL_take (l.drop n) hz
    generalize hv : (unitL (l.drop n)).1 = v at *
    generalize hk : (unitL (l.drop n)).2 = m at *
    have hlo : 55296 ≤ u := by unfold Scal at h1; omega
    have hg : ¬ (65536 + (u - 55296) * 1024 + (v - 56320)) < 65536 := by omega
    have g1 : 55296 + (65536 + (u - 55296) * 1024 + (v - 56320) - 65536) / 1024 = u := by omega
    have g2 : 56320 + (65536 + (u - 55296) * 1024 + (v - 56320) - 65536) % 1024 = v := by omega
    simp only [mb, if_neg hg, g1, g2]
    refine ⟨?_, by simp [e2, f2], by unfold Scal; omega⟩
    rw [List.append_assoc, ← List.drop_drop, ← f1]
    exact e1
  · rw [if_neg h2] at h; simp at h
theorem mb_length (r : Nat) : 1 ≤ (mb r).length ∧ (mb r).length ≤ 6 := by
  unfold mb
  split
  · have := un_length r; omega
  · have := un_length (55296 + (r - 65536) / 1024); have := un_length (56320 + (r - 65536) % 1024); simp; omega
theorem mdec_le (l : List UInt8) : (mdec l).2 ≤ l.length := by
  by_cases h : (mdec l).2 = 0
  · omega
  · obtain ⟨e, f, _⟩ := mdec_take l h
    have := congrArg List.length e
    simp at this
    omega
def mdecs : Nat → List UInt8 → Option (List Nat)
  | 0, l => if l = [] then some [] else none
  | f + 1, l => if l = [] then some [] else if (mdec l).2 = 0 then none else (mdecs f (l.drop (mdec l).2)).map ((mdec l).1 :: ·)
def mruns (l : List UInt8) : Option (List Nat) := mdecs l.length l
theorem mdecs_fuel : ∀ (f g : Nat) (l : List UInt8), l.length ≤ f → l.length ≤ g → mdecs f l = mdecs g l
  | 0, 0, _, _, _ => rfl
  | 0, g + 1, l, h, _ => by
    have : l = [] := List.eq_nil_of_length_eq_zero (by omega)
    simp [mdecs, this]
  | f + 1, 0, l, _, h => by
    have : l = [] := List.eq_nil_of_length_eq_zero (by omega)
    simp [mdecs, this]
  | f + 1, g + 1, l, h1, h2 => by
    unfold mdecs
    by_cases hne : l = []
    · simp [hne]
    · by_cases hz : (mdec l).2 = 0
      · simp [hz]
      · have hp := List.length_pos_iff.2 hne
        rw [if_neg hne, if_neg hne, if_neg hz, if_neg hz, mdecs_fuel f g (l.drop (mdec l).2) (by rw [List.length_drop]; omega) (by rw [List.length_drop]; omega)]
theorem mruns_nil : mruns [] = some [] := rfl
theorem mruns_cons (l : List UInt8) (h : l ≠ []) : mruns l = if (mdec l).2 = 0 then none else (mruns (l.drop (mdec l).2)).map ((mdec l).1 :: ·) := by
  have hp := List.length_pos_iff.2 h
  obtain ⟨n, hn⟩ : ∃ n, l.length = n + 1 := ⟨l.length - 1, by omega⟩
  unfold mruns
  rw [hn]
  show (if l = [] then _ else _) = _
  rw [if_neg h]
  by_cases hz : (mdec l).2 = 0
  · rw [if_pos hz, if_pos hz]
  · rw [if_neg hz, if_neg hz, mdecs_fuel n (l.drop (mdec l).2).length _ (by rw [List.length_drop]; omega) (Nat.le_refl _)]
theorem mb_ne (r : Nat) : mb r ≠ [] := by
  have := (mb_length r).1
  intro h
  rw [h] at this
  simp at this
theorem mruns_mb (r : Nat) (t : List UInt8) (h : Scal r) : mruns (mb r ++ t) = (mruns t).map (r :: ·) := by
  have hl := (mb_length r).1
  rw [mruns_cons _ (by simp [mb_ne]), mdec_mb r t h]
  simp only [List.drop_left]
  rw [if_neg (by omega)]
theorem mruns_of (rs : List Nat) (h : ∀ r ∈ rs, Scal r) : mruns (rs.flatMap mb) = some rs := by
  induction rs with
  | nil => rfl
  | cons r rs ih =>
    rw [List.flatMap_cons, mruns_mb r _ (h r (by simp)), ih (fun x hx => h x (by simp [hx]))]
    rfl
theorem mruns_some : ∀ (n : Nat) (l : List UInt8) (rs : List Nat), l.length ≤ n → mruns l = some rs → l = rs.flatMap mb ∧ ∀ r ∈ rs, Scal r
  | 0, l, rs, hl, h => by
    have : l = [] := List.eq_nil_of_length_eq_zero (by omega)
    subst this
    rw [mruns_nil] at h
    cases h
    simp
  | n + 1, l, rs, hl, h => by
    by_cases hne : l = []
    · subst hne
      rw [mruns_nil] at h
      cases h
      simp
    rw [mruns_cons l hne] at h
    by_cases hz : (mdec l).2 = 0
    · rw [if_pos hz] at h; cases h
    rw [if_neg hz] at h
    obtain ⟨q, hq, rfl⟩ := Option.map_eq_some_iff.1 h
    obtain ⟨e, f, g⟩ := mdec_take l hz
    have hp := List.length_pos_iff.2 hne
    obtain ⟨i1, i2⟩ := mruns_some n (l.drop (mdec l).2) q (by rw [List.length_drop]; omega) hq
    constructor
    · rw [List.flatMap_cons, ← i1]
      exact e
    · intro r hr
      rcases List.mem_cons.1 hr with rfl | hr
      · exact g
      · exact i2 r hr
theorem mruns_eq (l : List UInt8) (rs : List Nat) (h : mruns l = some rs) : l = rs.flatMap mb ∧ ∀ r ∈ rs, Scal r := mruns_some _ l rs (Nat.le_refl _) h
def encL (l : List UInt8) : List UInt8 := (runes l).flatMap mb
theorem mruns_enc (l : List UInt8) : mruns (encL l) = some (runes l) := mruns_of _ (runes_scal l)
theorem encL_inj (a b : List UInt8) (ha : validL a = true) (hb : validL b = true) (h : encL a = encL b) : a = b := by
  have h1 := mruns_enc a
  rw [h, mruns_enc b] at h1
  have h2 : runes b = runes a := Option.some.inj h1
  rw [← valid_u8 a ha, ← valid_u8 b hb, h2]
end Go.Proofs.Ytcgloepfnnfioaa
