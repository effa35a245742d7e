/-
  CUT and joined from the texts of this seat: Pz Plain W1 W4
-/
import Derived.Test.YtmaknddlgppinaaGreatDoorRows
import Derived.WalkKit
import Derived.Lib.DecodeN
import Derived.Laws.Cover4
import Derived.WalkSpells
import Derived.WalkLawsBesides
import Derived.BigQuiet
import Derived.Lib.Hide
import Derived.Lib.IndexBytes
import Derived.LoopN
import Derived.Deep.QuietTactic
import Derived.Laws.RangeAny
set_option linter.unusedVariables false
set_option linter.unusedSimpArgs false
namespace Go.Proofs.YtmaknddlgppinaaGreatDoor
open Go.RowKit
theorem pu0 (a : Act) (d : Tmp) (v : Value) : a.put (some d) v = { a with tmps := a.tmps.setIfInBounds d v } := rfl
theorem puN (a : Act) (v : Value) : a.put none v = a := rfl
theorem pu1 {α : Type} (l : List α) (i : Nat) (a : α) : l.toArray.setIfInBounds i a = (l.set i a).toArray := List.setIfInBounds_toArray l i a
theorem pu2 {α : Type} (x : α) (l : List α) (a : α) : (x :: l).set 0 a = a :: l := rfl
theorem pu3 {α : Type} (x : α) (l : List α) (n : Nat) (a : α) : (x :: l).set (n + 1) a = x :: l.set n a := rfl
end Go.Proofs.YtmaknddlgppinaaGreatDoor
namespace Go.Proofs.YtmaknddlgppinaaGreatDoor
open Go.Lib (decodeN decode_at)
def at0 (l : List UInt8) (i : Nat) : Nat := (l.getD i 0).toNat
theorem at0_lt (l : List UInt8) (i : Nat) : at0 l i < 256 := UInt8.toNat_lt _
theorem at0_drop (l : List UInt8) (k i : Nat) : at0 (l.drop k) i = at0 l (k + i) := by simp [at0, List.getD, List.getElem?_drop]
/-- The first rune of l, and its width, as a range over a string tells them. -/
def dec (l : List UInt8) : Nat × Nat := decodeN l.length (at0 l 0) (at0 l 1) (at0 l 2) (at0 l 3)
theorem get_getD (s : ByteArray) (i : Nat) : (s.get! i) = s.data.toList.getD i 0 := by
 cases s with
 | mk d =>
  show d[i]! = d.toList.getD i 0
  by_cases h : i < d.size
  ·rw [getElem!_pos d i h]; simp [List.getD, h]
  ·rw [getElem!_neg d i h]; simp [List.getD, h]; rfl
theorem decode_drop (s : ByteArray) (pos : Nat) : Utf8.decode s pos = dec (s.data.toList.drop pos) := by
 rw [decode_at]
 have hz : s.size - pos = (s.data.toList.drop pos).length := by simp
 simp only [dec, at0_drop, hz]
 simp only [at0, get_getD, Nat.add_zero]
theorem decodeN_width (n b0 b1 b2 b3 : Nat) : 1 ≤ (decodeN n b0 b1 b2 b3).2 ∧ (decodeN n b0 b1 b2 b3).2 ≤ 4 ∧ (1 ≤ n → (decodeN n b0 b1 b2 b3).2 ≤ n) := by
 unfold decodeN
 repeat' split
 all_goals simp only
 all_goals omega
theorem dec_width (l : List UInt8) : 1 ≤ (dec l).2 ∧ (dec l).2 ≤ 4 := ⟨(decodeN_width _ _ _ _ _).1, (decodeN_width _ _ _ _ _).2.1⟩
theorem dec_width_le (l : List UInt8) (h : l ≠ []) : (dec l).2 ≤ l.length := (decodeN_width _ _ _ _ _).2.2 (List.length_pos_iff.2 h)
theorem decodeN_rune (n b0 b1 b2 b3 : Nat) (h0 : b0 < 256) : (decodeN n b0 b1 b2 b3).1 ≤ 1114111 := by
 unfold decodeN
 repeat' split
 all_goals simp only
 all_goals omega
theorem dec_rune (l : List UInt8) : (dec l).1 ≤ 1114111 := decodeN_rune _ _ _ _ _ (at0_lt _ _)
/-- A scalar value. -/
def Scal (r : Nat) : Prop := r < 55296 ∨ (57344 ≤ r ∧ r ≤ 1114111)
instance (r : Nat) : Decidable (Scal r) := by unfold Scal; infer_instance
theorem decodeN_scal (n b0 b1 b2 b3 : Nat) (h0 : b0 < 256) : Scal (decodeN n b0 b1 b2 b3).1 := by
 unfold decodeN Scal
 repeat' split
 all_goals simp only
 all_goals omega
theorem dec_scal (l : List UInt8) : Scal (dec l).1 := decodeN_scal _ _ _ _ _ (at0_lt _ _)
/-- The bytes of a rune in UTF-8 (numbers). -/
def u8N (r : Nat) : List Nat :=
 if r < 128 then [r] else if r < 2048 then [192 + r / 64, 128 + r % 64]
 else if r < 65536 then [224 + r / 4096, 128 + r / 64 % 64, 128 + r % 64]
 else [240 + r / 262144, 128 + r / 4096 % 64, 128 + r / 64 % 64, 128 + r % 64]
def bs (l : List Nat) : List UInt8 := l.map UInt8.ofNat
def u8 (r : Nat) : List UInt8 := bs (u8N r)
/-- Sixteen bits in modified UTF-8 (numbers). -/
def unN (r : Nat) : List Nat :=
 if 1 ≤ r ∧ r < 128 then [r] else if r < 2048 then [192 + r / 64, 128 + r % 64]
 else [224 + r / 4096, 128 + r / 64 % 64, 128 + r % 64]
def un (r : Nat) : List UInt8 := bs (unN r)
/-- The bytes of a rune in modified UTF-8. -/
def mb (r : Nat) : List UInt8 := if r < 65536 then un r else un (55296 + (r - 65536) / 1024) ++ un (56320 + (r - 65536) % 1024)
theorem bs_length (l : List Nat) : (bs l).length = l.length := by simp [bs]
theorem at0_bs (l : List Nat) (t : List UInt8) (i : Nat) (hi : i < l.length) (hb : ∀ x ∈ l, x < 256) : at0 (bs l ++ t) i = l[i] := by
 have h1 : i < (bs l).length := by simpa [bs] using hi
 have : l[i] < 256 := hb _ (List.getElem_mem hi)
 simp only [at0, List.getD, List.getElem?_append_left h1, List.getElem?_eq_getElem h1, Option.getD_some]
 simp [bs]
 omega
set_option maxHeartbeats 1000000 in
theorem dec_u8 (r : Nat) (t : List UInt8) (h : Scal r) : dec (u8 r ++ t) = (r, (u8 r).length) := by
 unfold Scal at h
 have key : ∀ l : List Nat, u8N r = l → (∀ x ∈ l, x < 256) → dec (u8 r ++ t) = decodeN (l.length + t.length) (at0 (bs l ++ t) 0) (at0 (bs l ++ t) 1) (at0 (bs l ++ t) 2) (at0 (bs l ++ t) 3) ∧ (u8 r).length = l.length := by
  rintro l rfl hb
  unfold dec u8
  simp [bs_length]
 by_cases h1 : r < 128
 ·obtain ⟨e, e2⟩ := key [r] (by simp [u8N, h1]) (by simp; omega)
  rw [e, e2, at0_bs _ _ 0 (by simp) (by simp; omega)]
  simp [decodeN, h1]
 by_cases h2 : r < 2048
 ·have hb : ∀ x ∈ [192 + r / 64, 128 + r % 64], x < 256 := by simp; omega
  obtain ⟨e, e2⟩ := key [192 + r / 64, 128 + r % 64] (by simp [u8N, h1, h2]) hb
  rw [e, e2, at0_bs _ _ 0 (by simp) hb, at0_bs _ _ 1 (by simp) hb]
  simp only [List.getElem_cons_zero, List.getElem_cons_succ, List.length_cons, List.length_nil]
  unfold decodeN
  repeat' split
  all_goals first | (exfalso; omega) | (apply Prod.ext <;> simp only <;> omega)
 by_cases h3 : r < 65536
 ·have hb : ∀ x ∈ [224 + r / 4096, 128 + r / 64 % 64, 128 + r % 64], x < 256 := by simp; omega
  obtain ⟨e, e2⟩ := key [224 + r / 4096, 128 + r / 64 % 64, 128 + r % 64] (by simp [u8N, h1, h2, h3]) hb
  rw [e, e2, at0_bs _ _ 0 (by simp) hb, at0_bs _ _ 1 (by simp) hb, at0_bs _ _ 2 (by simp) hb]
  simp only [List.getElem_cons_zero, List.getElem_cons_succ, List.length_cons, List.length_nil]
  unfold decodeN
  repeat' split
  all_goals first | (exfalso; omega) | (apply Prod.ext <;> simp only <;> omega)
 ·have hb : ∀ x ∈ [240 + r / 262144, 128 + r / 4096 % 64, 128 + r / 64 % 64, 128 + r % 64], x < 256 := by simp; omega
  obtain ⟨e, e2⟩ := key [240 + r / 262144, 128 + r / 4096 % 64, 128 + r / 64 % 64, 128 + r % 64] (by simp [u8N, h1, h2, h3]) hb
  rw [e, e2, at0_bs _ _ 0 (by simp) hb, at0_bs _ _ 1 (by simp) hb, at0_bs _ _ 2 (by simp) hb, at0_bs _ _ 3 (by simp) hb]
  simp only [List.getElem_cons_zero, List.getElem_cons_succ, List.length_cons, List.length_nil]
  unfold decodeN
  repeat' split
  all_goals first | (exfalso; omega) | (apply Prod.ext <;> simp only <;> omega)
/-- The bad step. -/
def bad (p : Nat × Nat) : Bool := decide (p = (65533, 1))
theorem split_one (l : List UInt8) (x0 : Nat) (hn : 1 ≤ l.length) (h0 : at0 l 0 = x0) : l = bs [x0] ++ l.drop 1 := by
 match l, hn with
 | a :: t, _ => subst h0; simp [bs, at0]
theorem split_two (l : List UInt8) (x0 x1 : Nat) (hn : 2 ≤ l.length) (h0 : at0 l 0 = x0) (h1 : at0 l 1 = x1) : l = bs [x0, x1] ++ l.drop 2 := by
 match l, hn with
 | a :: b :: t, _ => subst h0 h1; simp [bs, at0]
theorem split_three (l : List UInt8) (x0 x1 x2 : Nat) (hn : 3 ≤ l.length) (h0 : at0 l 0 = x0) (h1 : at0 l 1 = x1) (h2 : at0 l 2 = x2) : l = bs [x0, x1, x2] ++ l.drop 3 := by
 match l, hn with
 | a :: b :: c :: t, _ => subst h0 h1 h2; simp [bs, at0]
theorem split_four (l : List UInt8) (x0 x1 x2 x3 : Nat) (hn : 4 ≤ l.length) (h0 : at0 l 0 = x0) (h1 : at0 l 1 = x1) (h2 : at0 l 2 = x2) (h3 : at0 l 3 = x3) : l = bs [x0, x1, x2, x3] ++ l.drop 4 := by
 match l, hn with
 | a :: b :: c :: d :: t, _ => subst h0 h1 h2 h3; simp [bs, at0]
/-- What decodeN tells: bad, or one of four forms. -/
theorem decodeN_forms (n b0 b1 b2 b3 : Nat) (h0 : b0 < 256) (h1 : b1 < 256) (h2 : b2 < 256) (h3 : b3 < 256) (hn : 1 ≤ n) :
  decodeN n b0 b1 b2 b3 = (65533, 1) ∨
  (∃ r, decodeN n b0 b1 b2 b3 = (r, 1) ∧ r < 128 ∧ b0 = r) ∨
  (∃ r, decodeN n b0 b1 b2 b3 = (r, 2) ∧ 128 ≤ r ∧ r < 2048 ∧ 2 ≤ n ∧ b0 = 192 + r / 64 ∧ b1 = 128 + r % 64) ∨
  (∃ r, decodeN n b0 b1 b2 b3 = (r, 3) ∧ 2048 ≤ r ∧ r < 65536 ∧ 3 ≤ n ∧ b0 = 224 + r / 4096 ∧ b1 = 128 + r / 64 % 64 ∧ b2 = 128 + r % 64) ∨
  (∃ r, decodeN n b0 b1 b2 b3 = (r, 4) ∧ 65536 ≤ r ∧ r ≤ 1114111 ∧ 4 ≤ n ∧ b0 = 240 + r / 262144 ∧ b1 = 128 + r / 4096 % 64 ∧ b2 = 128 + r / 64 % 64 ∧ b3 = 128 + r % 64) := by
 unfold decodeN
 split
 ·exact .inr (.inl ⟨b0, rfl, by omega, rfl⟩)
 split
 ·split
  ·exact .inr (.inr (.inl ⟨_, rfl, by omega, by omega, by omega, by omega, by omega⟩))
  ·exact .inl rfl
 split
 ·split
  ·exact .inr (.inr (.inr (.inl ⟨_, rfl, by omega, by omega, by omega, by omega, by omega, by omega⟩)))
  ·exact .inl rfl
 split
 ·split
  ·exact .inr (.inr (.inr (.inr ⟨_, rfl, by omega, by omega, by omega, by omega, by omega, by omega, by omega⟩)))
  ·exact .inl rfl
 ·exact .inl rfl
theorem dec_take (l : List UInt8) (hne : l ≠ []) (hb : dec l ≠ (65533, 1)) : l = u8 (dec l).1 ++ l.drop (dec l).2 ∧ (u8 (dec l).1).length = (dec l).2 := by
 have hn : 1 ≤ l.length := List.length_pos_iff.2 hne
 unfold dec at hb ⊢
 rcases decodeN_forms l.length (at0 l 0) (at0 l 1) (at0 l 2) (at0 l 3) (at0_lt _ _) (at0_lt _ _) (at0_lt _ _) (at0_lt _ _) hn with h | ⟨r, h, a, b⟩ | ⟨r, h, a, a', n2, b, c⟩ | ⟨r, h, a, a', n3, b, c, d⟩ | ⟨r, h, a, a', n4, b, c, d, e⟩
 ·exact absurd h hb
 ·rw [h]
  have e1 : u8 r = bs [r] := by simp [u8, u8N, a]
  simp only [e1]
  exact ⟨split_one l r hn b, by simp [bs]⟩
 ·rw [h]
  have e1 : u8 r = bs [192 + r / 64, 128 + r % 64] := by simp [u8, u8N, a', show ¬ r < 128 by omega]
  simp only [e1]
  exact ⟨split_two l _ _ n2 b c, by simp [bs]⟩
 ·rw [h]
  have e1 : u8 r = bs [224 + r / 4096, 128 + r / 64 % 64, 128 + r % 64] := by simp [u8, u8N, a', show ¬ r < 128 by omega, show ¬ r < 2048 by omega]
  simp only [e1]
  exact ⟨split_three l _ _ _ n3 b c d, by simp [bs]⟩
 ·rw [h]
  have e1 : u8 r = bs [240 + r / 262144, 128 + r / 4096 % 64, 128 + r / 64 % 64, 128 + r % 64] := by simp [u8, u8N, show ¬ r < 65536 by omega, show ¬ r < 128 by omega, show ¬ r < 2048 by omega]
  simp only [e1]
  exact ⟨split_four l _ _ _ _ n4 b c d e, by simp [bs]⟩
def decs : Nat → List UInt8 → List (Nat × Nat)
 | 0, _ => []
 | f + 1, l => if l = [] then [] else dec l :: decs f (l.drop (dec l).2)
def steps (l : List UInt8) : List (Nat × Nat) := decs l.length l
theorem decs_fuel : ∀ (f g : Nat) (l : List UInt8), l.length ≤ f → l.length ≤ g → decs f l = decs g l
 | 0, 0, _, _, _ => rfl
 | 0, g + 1, l, h, _ => by
  have : l = [] := List.eq_nil_of_length_eq_zero (by omega)
  simp [decs, this]
 | f + 1, 0, l, _, h => by
  have : l = [] := List.eq_nil_of_length_eq_zero (by omega)
  simp [decs, this]
 | f + 1, g + 1, l, h1, h2 => by
  unfold decs
  by_cases hne : l = []
  ·simp [hne]
  ·have := (dec_width l).1
   have hp := List.length_pos_iff.2 hne
   rw [if_neg hne, if_neg hne, decs_fuel f g (l.drop (dec l).2) (by rw [List.length_drop]; omega) (by rw [List.length_drop]; omega)]
theorem steps_cons (l : List UInt8) (h : l ≠ []) : steps l = dec l :: steps (l.drop (dec l).2) := by
 have hp := List.length_pos_iff.2 h
 have := (dec_width l).1
 obtain ⟨n, hn⟩ : ∃ n, l.length = n + 1 := ⟨l.length - 1, by omega⟩
 unfold steps
 rw [hn]
 show (if l = [] then [] else _) = _
 rw [if_neg h, decs_fuel n (l.drop (dec l).2).length _ (by rw [List.length_drop]; omega) (Nat.le_refl _)]
theorem steps_length (l : List UInt8) : (steps l).length ≤ l.length := by
 have : ∀ (f : Nat) (l : List UInt8), (decs f l).length ≤ f := by
  intro f
  induction f with
  | zero => intro l; simp [decs]
  | succ f ih =>
   intro l
   unfold decs
   split
   ·simp
   ·simp; exact ih _
 exact this _ _
/-- Induction along the steps. -/
theorem steps_ind {p : List UInt8 → Prop} (hn : p []) (hc : ∀ l, l ≠ [] → p (l.drop (dec l).2) → p l) (l : List UInt8) : p l := by
 have : ∀ (n : Nat) (l : List UInt8), l.length ≤ n → p l := by
  intro n
  induction n with
  | zero => intro l h; rw [List.eq_nil_of_length_eq_zero (Nat.le_zero.1 h)]; exact hn
  | succ n ih =>
   intro l h
   by_cases hne : l = []
   ·rw [hne]; exact hn
   ·have := (dec_width l).1
    have hp := List.length_pos_iff.2 hne
    exact hc l hne (ih _ (by rw [List.length_drop]; omega))
 exact this _ l (Nat.le_refl _)
def validL (l : List UInt8) : Bool := (steps l).all fun p => !bad p
def runes (l : List UInt8) : List Nat := (steps l).map Prod.fst
theorem validL_nil : validL [] = true := rfl
theorem runes_nil : runes [] = [] := rfl
theorem validL_cons (l : List UInt8) (h : l ≠ []) : validL l = (!bad (dec l) && validL (l.drop (dec l).2)) := by
 simp [validL, steps_cons l h]
theorem runes_cons (l : List UInt8) (h : l ≠ []) : runes l = (dec l).1 :: runes (l.drop (dec l).2) := by
 simp [runes, steps_cons l h]
theorem runes_length_le (l : List UInt8) : (runes l).length ≤ l.length := by simpa [runes] using steps_length l
theorem runes_scal (l : List UInt8) : ∀ r ∈ runes l, Scal r := by
 refine steps_ind (p := fun l => ∀ r ∈ runes l, Scal r) (by simp [runes_nil]) ?_ l
 intro l hne ih r hr
 rw [runes_cons l hne] at hr
 rcases List.mem_cons.1 hr with rfl | h
 ·exact dec_scal l
 ·exact ih r h
/-- A text is the UTF-8 of its runes. -/
theorem valid_u8 (l : List UInt8) : validL l = true → (runes l).flatMap u8 = l := by
 refine steps_ind (p := fun l => validL l = true → (runes l).flatMap u8 = l) (by intro _; rfl) ?_ l
 intro l hne ih hv
 rw [validL_cons l hne] at hv
 simp only [Bool.and_eq_true, Bool.not_eq_true', bad, decide_eq_false_iff_not] at hv
 rw [runes_cons l hne, List.flatMap_cons, ih hv.2]
 exact (dec_take l hne hv.1).1.symm
theorem bad_u8 (r : Nat) (t : List UInt8) (h : Scal r) : bad (dec (u8 r ++ t)) = false := by
 rw [dec_u8 r t h]
 simp only [bad, decide_eq_false_iff_not, Prod.mk.injEq, not_and]
 rintro rfl
 decide
theorem un_length (r : Nat) : 1 ≤ (un r).length ∧ (un r).length ≤ 3 := by
 unfold un unN bs
 repeat' split
 all_goals simp
theorem mb_length (r : Nat) : 1 ≤ (mb r).length ∧ (mb r).length ≤ 6 := by
 unfold mb
 split
 ·have := un_length r; omega
 ·have := un_length (55296 + (r - 65536) / 1024); have := un_length (56320 + (r - 65536) % 1024); simp; omega
def encL (l : List UInt8) : List UInt8 := (runes l).flatMap mb
end Go.Proofs.YtmaknddlgppinaaGreatDoor
namespace Go.Proofs.YtmaknddlgppinaaGreatDoor
open Go.RowKit
theorem ret_int {k : IntKind} {a b : Int} (h : a = b) : Ending.returned (.int k a) = .returned (.int k b) := by rw [h]
theorem ret_bool {a b : Bool} (h : a = b) : Ending.returned (.bool a) = .returned (.bool b) := by rw [h]
def nameB (r : Int) : Bool := decide (32 < r ∧ r ≠ 127 ∧ r ≠ 59 ∧ r ≠ 91 ∧ r ≠ 40 ∧ r ≠ 41 ∧ r ≠ 46)
set_option maxHeartbeats 400000 in
theorem nameRune_any (r : Int) (w : World) :
  Calls Tryz.prog 138 #[.int .i32 r] w fun e w' => e = .returned (.bool (nameB r)) ∧ w = w' := by
 go_enter Tryz.func138, Tryz.ntmps138
 go_wp2
 all_goals (go_ret; refine ⟨ret_bool ?_, rfl⟩; rw [Bool.eq_iff_iff]; simp_all [nameB])
def rlen (r : Int) : Int := if 1 ≤ r ∧ r ≤ 127 then 1 else if r ≤ 2047 then 2 else if r < 65536 then 3 else 6
theorem rlen_1 {r : Int} (h : 1 ≤ r ∧ r ≤ 127) : rlen r = 1 := by unfold rlen; rw [if_pos h]
theorem rlen_2 {r : Int} (h : ¬ (1 ≤ r ∧ r ≤ 127)) (h2 : r ≤ 2047) : rlen r = 2 := by unfold rlen; rw [if_neg h, if_pos h2]
theorem rlen_3 {r : Int} (h : 2047 < r) (h2 : r < 65536) : rlen r = 3 := by unfold rlen; rw [if_neg (by omega), if_neg (by omega), if_pos h2]
theorem rlen_6 {r : Int} (h : 65536 ≤ r) : rlen r = 6 := by unfold rlen; rw [if_neg (by omega), if_neg (by omega), if_neg (by omega)]
set_option maxHeartbeats 400000 in
theorem runeLen_any (r : Int) (w : World) :
  Calls Tryz.prog 200 #[.int .i32 r] w fun e w' => e = .returned (.int .i64 (rlen r)) ∧ w = w' := by
 go_enter Tryz.func200, Tryz.ntmps200
 go_wp2
 all_goals (go_ret; refine ⟨ret_int ?_, rfl⟩; first | exact (rlen_1 (by omega)).symm | exact (rlen_2 (by omega) (by omega)).symm | exact (rlen_3 (by omega) (by omega)).symm | exact (rlen_6 (by omega)).symm)
theorem at0_get (s : ByteArray) (i : Nat) (h : i < s.size) : (s[i]'h).toNat = at0 s.data.toList i := by
 unfold at0
 congr 1
 have h' : i < s.data.toList.length := by simpa using h
 simp only [List.getD, List.getElem?_eq_getElem h', Option.getD_some]
 rfl
def goodB (l : List UInt8) : Bool := decide (3 ≤ l.length) && (l.take 3 == [239, 191, 189])
set_option maxHeartbeats 400000 in
theorem startsGoodBad_any (s : ByteArray) (w : World) :
  Calls Tryz.prog 170 #[.string s] w fun e w' => e = .returned (.bool (goodB s.data.toList)) ∧ w = w' := by
 have e1 := Lib.extract_toList s 0 3
 have e2 := Lib.size_eq s
 have E : Hid _ := e1
 have E2 := Lib.hid e2
 clear e1 e2
 go_enter Tryz.func170, Tryz.ntmps170
 go_wp2
 ·go_ret
  refine ⟨ret_bool ?_, rfl⟩
  rw [E.out]
  have := E2.out
  simp only [goodB, List.drop_zero]
  rw [decide_eq_true (by omega), Bool.true_and]
 ·go_ret
  refine ⟨ret_bool ?_, rfl⟩
  have := E2.out
  simp only [goodB]
  rw [decide_eq_false (by omega), Bool.false_and]
theorem ofInt_i32 (a : Nat) (ha : a < 2147483648) : (BitVec.ofInt 32 (a : Int)).toNat = a := by
 rw [BitVec.ofInt_natCast, BitVec.toNat_ofNat]; exact Nat.mod_eq_of_lt (by omega)
abbrev L (s : ByteArray) : List UInt8 := s.data.toList
theorem size_L (s : ByteArray) : s.size = (L s).length := Lib.size_eq s
theorem drop_ne {s : ByteArray} {pos : Nat} (h : pos < s.size) : (L s).drop pos ≠ [] := by
 intro e
 have := congrArg List.length e
 rw [List.length_drop, ← size_L] at this
 simp at this
 omega
theorem drop_end {s : ByteArray} {pos : Nat} (h : ¬ pos < s.size) : (L s).drop pos = [] := by
 apply List.drop_eq_nil_of_le
 rw [← size_L]
 omega
/-- One step at pos: the rune, and what is left behind it. -/
theorem step_at {s : ByteArray} {pos : Nat} (h : pos < s.size) :
  ∃ r k, Utf8.decode s pos = (r, k) ∧ dec ((L s).drop pos) = (r, k) ∧ 1 ≤ k ∧ pos + k ≤ s.size ∧ Scal r ∧ runes ((L s).drop pos) = r :: runes ((L s).drop (pos + k)) ∧
   validL ((L s).drop pos) = (!bad (r, k) && validL ((L s).drop (pos + k))) := by
 have hne := drop_ne h
 have hw := dec_width_le _ hne
 rw [List.length_drop, ← size_L] at hw
 refine ⟨(dec ((L s).drop pos)).1, (dec ((L s).drop pos)).2, decode_drop s pos, rfl, (dec_width _).1, by omega, dec_scal _, ?_, ?_⟩
 ·rw [runes_cons _ hne, List.drop_drop]
 ·rw [validL_cons _ hne, List.drop_drop]
set_option maxRecDepth 1000000 in
set_option maxHeartbeats 400000 in
theorem Len_any (s : ByteArray) (w : World) (hs : s.size ≤ maxLen) :
  Calls Tryz.prog 197 #[.string s] w fun e w' => e = .returned (.int .i64 (runes (L s)).length) ∧ ∃ pos, w' = w.iter s pos := by
 unfold maxLen at hs
 have hlen := Lib.hid (runes_length_le (L s))
 have hsz := Lib.hid (size_L s)
 go_enter Tryz.func197, Tryz.ntmps197
 go_wp2
 go_loopw [3] (fun n w' => ∃ pos k : Nat, w' = w.iter s pos ∧ n = .int .i64 k ∧ k + (runes ((L s).drop pos)).length = (runes (L s)).length) (fun _ w' => s.size - w'.iterPos w.heap.size)
 case atStart => exact ⟨0, 0, rfl, rfl, by simp⟩
 case round =>
  obtain ⟨pos, k, rfl, rfl, hk⟩ := hrel
  have HK := Lib.hid hk
  clear hk
  by_cases hp : pos < s.size
  ·obtain ⟨r, j, e1, _, hj, hjs, _, e2, _⟩ := step_at hp
   have hnx : ∀ ty, (Instr.next (.pointer (some ⟨w.heap.size, 0, none⟩)) true ty).run Tryz.prog (w.iter s pos) = _ := fun ty => run_next_any w s pos ty hp
   rw [e1] at hnx
   have hkb : k + 1 ≤ 9223372036854775807 := by
    have a := HK.out
    have b := hlen.out
    have c := hsz.out
    rw [e2] at a
    simp at a
    omega
   have E2 := Lib.hid e2
   clear e1 e2
   go_wp2
   go_roundw
   case rel => exact ⟨pos + j, k + 1, rfl, by go_num, by have a := HK.out; rw [E2.out] at a; simp only [List.length_cons] at a; omega⟩
   case measure => simp; omega
  ·have hnx : ∀ ty, (Instr.next (.pointer (some ⟨w.heap.size, 0, none⟩)) true ty).run Tryz.prog (w.iter s pos) = _ := fun ty => run_next_end w s pos ty hp
   go_wp2
   go_ret
   refine ⟨ret_int ?_, pos, rfl⟩
   have a := HK.out
   rw [drop_end hp, runes_nil] at a
   simp at a
   omega
/-- A rune 65533 is a bad byte's, but where its own three bytes stand. -/
theorem bad_good (l : List UInt8) (hne : l ≠ []) : bad (dec l) = (decide ((dec l).1 = 65533) && !goodB l) := by
 have hS : Scal 65533 := by unfold Scal; omega
 have hu : u8 65533 = [239, 191, 189] := by decide
 by_cases hg : goodB l = true
 ·have hg' := hg
  unfold goodB at hg'
  simp only [Bool.and_eq_true, decide_eq_true_eq, beq_iff_eq] at hg'
  have hl : l = u8 65533 ++ l.drop 3 := by
   rw [hu, ← hg'.2]
   exact (List.take_append_drop 3 l).symm
  have hb : bad (dec l) = false := by
   rw [hl]
   exact bad_u8 65533 _ hS
  rw [hb, hg]
  simp
 ·have hg' : goodB l = false := by simpa using hg
  rw [hg']
  by_cases hb : dec l = (65533, 1)
  ·simp [bad, hb]
  ·have ht := (dec_take l hne hb).1
   have h1 : (dec l).1 ≠ 65533 := by
    intro h1
    rw [h1, hu] at ht
    apply hg
    unfold goodB
    rw [ht]
    simp
   simp [bad, hb, h1]
theorem startsGood_true (s : ByteArray) (w : World) (h : goodB (L s) = true) :
  Calls Tryz.prog 170 #[.string s] w fun e w' => e = .returned (.bool true) ∧ w = w' := by
 have := startsGoodBad_any s w
 rwa [h] at this
theorem startsGood_false (s : ByteArray) (w : World) (h : goodB (L s) = false) :
  Calls Tryz.prog 170 #[.string s] w fun e w' => e = .returned (.bool false) ∧ w = w' := by
 have := startsGoodBad_any s w
 rwa [h] at this
set_option maxRecDepth 1000000 in
set_option maxHeartbeats 400000 in
theorem valid_any (s : ByteArray) (w : World) :
  Calls Tryz.prog 139 #[.string s] w fun e w' => e = .returned (.bool (validL (L s))) ∧ Below w.heap.size w w' := by
 go_enter Tryz.func139, Tryz.ntmps139
 go_wp2
 go_loopw [3, 4] (fun _ _ w' => ∃ pos : Nat, w' = w.iter s pos ∧ validL ((L s).drop pos) = validL (L s)) (fun _ _ w' => s.size - w'.iterPos w.heap.size)
 case atStart => exact ⟨0, rfl, by simp⟩
 case round =>
  obtain ⟨pos, rfl, hk⟩ := hrel
  have HK := Lib.hid hk
  clear hk
  by_cases hp : pos < s.size
  ·obtain ⟨r, j, e1, e4, hj, hjs, _, _, e3⟩ := step_at hp
   have hnx : ∀ ty, (Instr.next (.pointer (some ⟨w.heap.size, 0, none⟩)) true ty).run Tryz.prog (w.iter s pos) = _ := fun ty => run_next_any w s pos ty hp
   rw [e1] at hnx
   have hbg := bad_good _ (drop_ne hp)
   rw [e4] at hbg
   have HB := Lib.hid hbg
   have E3 := Lib.hid e3
   clear e1 e3 e4 hbg
   by_cases hr : r = 65533
   ·subst hr
    by_cases hg : goodB ((L s).drop pos) = true
    ·have HG := fun W => Lib.hid (startsGood_true (s.extract pos s.size) W (by rw [L, Lib.extract_to_end]; exact hg))
     have hbf : bad (65533, j) = false := by rw [HB.out, hg]; rfl
     have HBF := Lib.hid hbf
     clear hg hbf
     go_wp2_with (go_at_call 170; refine (HG _).out.mono ?_; rintro e w' ⟨rfl, rfl⟩)
     go_roundw
     case rel => exact ⟨pos + j, rfl, by have a := HK.out; rw [E3.out, HBF.out] at a; simpa using a⟩
     case measure => simp; omega
    ·have hg' : goodB ((L s).drop pos) = false := by simpa using hg
     have HG := fun W => Lib.hid (startsGood_false (s.extract pos s.size) W (by rw [L, Lib.extract_to_end]; exact hg'))
     have hbf : bad (65533, j) = true := by rw [HB.out, hg']; rfl
     have HBF := Lib.hid hbf
     clear hg hg' hbf
     go_wp2_with (go_at_call 170; refine (HG _).out.mono ?_; rintro e w' ⟨rfl, rfl⟩)
     go_ret
     refine ⟨ret_bool ?_, (Below.refl _ _).alloc (Nat.le_refl _) _⟩
     rw [← HK.out, E3.out, HBF.out]
     rfl
   ·have hrz : ((r : Int) == 65533) = false := by rw [beq_eq_false_iff_ne]; omega
    have hbf : bad (r, j) = false := by rw [HB.out]; simp [hr]
    have HBF := Lib.hid hbf
    clear hbf
    go_wp2
    go_roundw
    case rel => exact ⟨pos + j, rfl, by have a := HK.out; rw [E3.out, HBF.out] at a; simpa using a⟩
    case measure => simp; omega
  ·have hnx : ∀ ty, (Instr.next (.pointer (some ⟨w.heap.size, 0, none⟩)) true ty).run Tryz.prog (w.iter s pos) = _ := fun ty => run_next_end w s pos ty hp
   go_wp2
   go_ret
   refine ⟨ret_bool ?_, (Below.refl _ _).alloc (Nat.le_refl _) _⟩
   rw [← HK.out, drop_end hp]
   rfl
theorem rlen_mb (r : Nat) (_h : Scal r) : rlen (r : Int) = ((mb r).length : Int) := by
 have key : ∀ x : Nat, (un x).length = if 1 ≤ x ∧ x < 128 then 1 else if x < 2048 then 2 else 3 := by
  intro x
  unfold un unN
  rw [bs_length]
  repeat' split
  all_goals rfl
 unfold mb
 by_cases c1 : 1 ≤ r ∧ r ≤ 127
 ·rw [rlen_1 (by omega), if_pos (by omega), key, if_pos (by omega)]; rfl
 by_cases c2 : r ≤ 2047
 ·rw [rlen_2 (by omega) (by omega), if_pos (by omega), key, if_neg (by omega), if_pos (by omega)]; rfl
 by_cases c3 : r < 65536
 ·rw [rlen_3 (by omega) (by omega), if_pos (by omega), key, if_neg (by omega), if_neg (by omega)]; rfl
 ·rw [rlen_6 (by omega), if_neg (by omega), List.length_append, key, key, if_neg (by omega), if_neg (by omega), if_neg (by omega), if_neg (by omega)]; rfl
theorem enc_le6 (l : List UInt8) : (encL l).length ≤ 6 * (runes l).length := by
 unfold encL
 generalize runes l = rs
 induction rs with
 | nil => simp
 | cons r rs ih =>
  have := (mb_length r).2
  simp only [List.flatMap_cons, List.length_append, List.length_cons]
  omega
set_option maxRecDepth 1000000 in
set_option maxHeartbeats 400000 in
theorem encodedLen_any (s : ByteArray) (w : World) (hs : s.size ≤ 1000000000000000000) :
  Calls Tryz.prog 195 #[.string s] w fun e w' => e = .returned (.int .i64 (encL (L s)).length) ∧ Below w.heap.size w w' := by
 have hlen := runes_length_le (L s)
 have h6 := enc_le6 (L s)
 rw [← size_L] at hlen
 have HT := Lib.hid (show (encL (L s)).length ≤ 6000000000000000000 by omega)
 clear hlen h6
 go_enter Tryz.func195, Tryz.ntmps195
 go_wp2
 go_loopw [3, 5] (fun n _ w' => ∃ pos k : Nat, w' = w.iter s pos ∧ n = .int .i64 k ∧ k + (encL ((L s).drop pos)).length = (encL (L s)).length) (fun _ _ w' => s.size - w'.iterPos w.heap.size)
 case atStart => exact ⟨0, 0, rfl, rfl, by simp⟩
 case round =>
  obtain ⟨pos, k, rfl, rfl, hk⟩ := hrel
  have HK := Lib.hid hk
  clear hk
  by_cases hp : pos < s.size
  ·obtain ⟨r, j, e1, _, hj, hjs, hsc, e2, _⟩ := step_at hp
   have hnx : ∀ ty, (Instr.next (.pointer (some ⟨w.heap.size, 0, none⟩)) true ty).run Tryz.prog (w.iter s pos) = _ := fun ty => run_next_any w s pos ty hp
   rw [e1] at hnx
   have e5 : encL ((L s).drop pos) = mb r ++ encL ((L s).drop (pos + j)) := by unfold encL; rw [e2]; rfl
   have hrl := fun W => runeLen_any (r : Int) W
   rw [rlen_mb r hsc] at hrl
   have HRL := Lib.hid hrl
   have hm6 := (mb_length r).2
   generalize hm : (mb r).length = m at *
   have hkb : k ≤ 6000000000000000000 := by
    have a := HK.out
    have b := HT.out
    omega
   have HM := Lib.hid hm
   have E5 := Lib.hid e5
   clear e1 e2 e5 hm hrl
   go_wp2_with (go_at_call 200; refine (HRL.out _).mono ?_; rintro e w' ⟨rfl, rfl⟩)
   go_roundw
   case rel => exact ⟨pos + j, k + m, rfl, by go_num, by have a := HK.out; rw [E5.out, List.length_append, HM.out] at a; omega⟩
   case measure => simp; omega
  ·have hnx : ∀ ty, (Instr.next (.pointer (some ⟨w.heap.size, 0, none⟩)) true ty).run Tryz.prog (w.iter s pos) = _ := fun ty => run_next_end w s pos ty hp
   go_wp2
   go_ret
   refine ⟨ret_int ?_, (Below.refl _ _).alloc (Nat.le_refl _) _⟩
   have a := HK.out
   rw [drop_end hp] at a
   have z : (encL []).length = 0 := rfl
   omega
end Go.Proofs.YtmaknddlgppinaaGreatDoor
