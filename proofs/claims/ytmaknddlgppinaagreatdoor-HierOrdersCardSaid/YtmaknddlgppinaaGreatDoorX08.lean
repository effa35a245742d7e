/-
  CUT and joined from the texts of this seat: Dp Shelf D1 H1 D2 D3
-/
import Derived.Test.YtmaknddlgppinaaGreatDoorX07
import Derived.Test.YtmaknddlgppinaaGreatDoorRows
import Derived.Test.YtmaknddlgppinaaGreatDoorX02
import Derived.Lib.Bytealg
import Derived.Shelf.Small.Strs
import Derived.Shelf.Strings.Prefix
import Derived.StillTailTactics
import Derived.Deep.RegionHeld3
import Derived.IntWalk
set_option linter.unusedVariables false
set_option linter.unusedSimpArgs false
/-! Dp -/
namespace Go.Proofs.YtmaknddlgppinaaGreatDoor


/-- A type: its dimensions and its name. -/
abbrev Ty := Nat × List UInt8
def descT (p : Ty) : List UInt8 := List.replicate p.1 91 ++ (if p.2 = [] then [73] else 76 :: (p.2 ++ [59]))
def tlen (p : Ty) : Nat := (descT p).length
def okP (p : Ty) : Bool := decide (p.1 ≤ 4) && (p.2.isEmpty || nameL p.2)
theorem okP_iff (p : Ty) : okP p = true ↔ p.1 ≤ 4 ∧ (p.2 = [] ∨ nameL p.2 = true) := by
  unfold okP
  simp only [Bool.and_eq_true, decide_eq_true_eq, Bool.or_eq_true, List.isEmpty_iff]
theorem nameL_nil : nameL [] = false := by decide
theorem descT_len (p : Ty) : (descT p).length = p.1 + (if p.2 = [] then 1 else p.2.length + 2) := by
  unfold descT
  by_cases h : p.2 = []
  · simp [h]
  · simp [h]
theorem tlen_pos (p : Ty) : 1 ≤ tlen p := by
  unfold tlen
  rw [descT_len]
  split <;> omega
def baseL : List UInt8 → Option (List UInt8)
  | [] => none
  | c :: t => if c = 73 then some [] else if c = 76 then
      (if (t.takeWhile (· != 59)).length < t.length ∧ nameL (t.takeWhile (· != 59)) = true then some (t.takeWhile (· != 59)) else none) else none
theorem baseL_cons (c : UInt8) (t : List UInt8) : baseL (c :: t) = if c = 73 then some [] else if c = 76 then
      (if (t.takeWhile (· != 59)).length < t.length ∧ nameL (t.takeWhile (· != 59)) = true then some (t.takeWhile (· != 59)) else none) else none := rfl
def lead (l : List UInt8) : Nat := (l.takeWhile (· == 91)).length
def firstL (l : List UInt8) : Option Ty := if 4 < lead l then none else (baseL (l.drop (lead l))).map fun n => (lead l, n)
theorem lead_le (l : List UInt8) : lead l ≤ l.length := (List.takeWhile_prefix _).length_le
theorem lead_split (l : List UInt8) : l = List.replicate (lead l) 91 ++ l.drop (lead l) := by
  have h1 : l.takeWhile (· == 91) = List.replicate (lead l) 91 := by
    refine List.eq_replicate_iff.2 ⟨rfl, fun b hb => ?_⟩
    have := List.all_eq_true.1 (List.all_takeWhile (p := fun c : UInt8 => c == 91) (l := l)) b hb
    simpa using this
  have h2 : l.take (lead l) = l.takeWhile (· == 91) := by
    obtain ⟨t, ht⟩ := List.takeWhile_prefix (l := l) (· == (91 : UInt8))
    have : l.take (lead l) = (l.takeWhile (· == 91) ++ t).take (l.takeWhile (· == 91)).length := by rw [ht]; rfl
    rw [this, List.take_left]
  rw [← h1, ← h2, List.take_append_drop]
theorem lead_cons (c : UInt8) (t : List UInt8) : lead (c :: t) = if c = 91 then lead t + 1 else 0 := by
  unfold lead
  by_cases h : c = 91 <;> simp [h]
theorem lead_nil : lead [] = 0 := rfl
theorem lead_at (l : List UInt8) (k : Nat) (h : k < lead l) : at0 l k = 91 := by
  induction k generalizing l with
  | zero =>
    cases l with
    | nil => simp [lead_nil] at h
    | cons c t =>
      rw [lead_cons] at h
      by_cases hc : c = 91
      · subst hc; rfl
      · rw [if_neg hc] at h; omega
  | succ k ih =>
    cases l with
    | nil => simp [lead_nil] at h
    | cons c t =>
      rw [lead_cons] at h
      by_cases hc : c = 91
      · rw [if_pos hc] at h
        exact ih t (by omega)
      · rw [if_neg hc] at h; omega
theorem lead_end (l : List UInt8) (h : lead l < l.length) : at0 l (lead l) ≠ 91 := by
  induction l with
  | nil => simp at h
  | cons c t ih =>
    rw [lead_cons] at h ⊢
    by_cases hc : c = 91
    · rw [if_pos hc] at h ⊢
      exact ih (by simp at h; omega)
    · rw [if_neg hc]
      intro hh
      apply hc
      have h1 : c.toNat = 91 := hh
      exact UInt8.toNat_inj.1 (by rw [h1]; rfl)
theorem baseL_some {l n : List UInt8} (h : baseL l = some n) : (n = [] ∨ nameL n = true) ∧ ∃ t, l = (if n = [] then [73] else 76 :: (n ++ [59])) ++ t := by
  cases l with
  | nil => simp [baseL] at h
  | cons c t =>
    rw [baseL_cons] at h
    by_cases h1 : c = 73
    · rw [if_pos h1] at h
      obtain rfl : [] = n := by simpa using h
      subst h1
      exact ⟨.inl rfl, t, by simp⟩
    rw [if_neg h1] at h
    by_cases h2 : c = 76
    · rw [if_pos h2] at h
      split at h
      · rename_i hh
        obtain ⟨hlt, hn⟩ := hh
        obtain rfl : t.takeWhile (· != 59) = n := by simpa using h
        subst h2
        have hne : t.takeWhile (· != 59) ≠ [] := by intro e; rw [e, nameL_nil] at hn; exact absurd hn (by simp)
        refine ⟨.inr hn, t.drop ((t.takeWhile (· != 59)).length + 1), ?_⟩
        rw [if_neg hne]
        obtain ⟨r, hr⟩ := List.takeWhile_prefix (l := t) (· != (59 : UInt8))
        have hrd : r = t.drop (t.takeWhile (· != 59)).length := by
          have : t.drop (t.takeWhile (· != 59)).length = (t.takeWhile (· != 59) ++ r).drop (t.takeWhile (· != 59)).length := by rw [hr]
          rw [this, List.drop_left]
        cases r with
        | nil =>
          have := congrArg List.length hr
          simp at this
          omega
        | cons x r =>
          have hx : x = 59 := by
            have hd := List.head?_dropWhile_not (p := fun c : UInt8 => c != 59) t
            have e : t.dropWhile (· != 59) = x :: r := by
              have := List.takeWhile_append_dropWhile (p := fun c : UInt8 => c != 59) (l := t)
              have h3 : t.takeWhile (· != 59) ++ t.dropWhile (· != 59) = t.takeWhile (· != 59) ++ (x :: r) := by rw [this, hr]
              exact List.append_cancel_left h3
            rw [e] at hd
            simpa using hd
          subst hx
          have : r = t.drop ((t.takeWhile (· != 59)).length + 1) := by
            rw [← List.drop_drop, ← hrd]; rfl
          rw [← this]
          simp [hr]
      · exact absurd h (by simp)
    · rw [if_neg h2] at h
      exact absurd h (by simp)
theorem firstL_some {l : List UInt8} {p : Ty} (h : firstL l = some p) : okP p = true ∧ l = descT p ++ l.drop (tlen p) := by
  unfold firstL at h
  by_cases h4 : 4 < lead l
  · rw [if_pos h4] at h; exact absurd h (by simp)
  rw [if_neg h4] at h
  obtain ⟨n, hn, rfl⟩ := Option.map_eq_some_iff.1 h
  obtain ⟨hok, t, ht⟩ := baseL_some hn
  refine ⟨(okP_iff _).2 ⟨by simp only; omega, hok⟩, ?_⟩
  have hl : l = descT (lead l, n) ++ t := by
    have := lead_split l
    rw [ht] at this
    rw [descT, List.append_assoc]
    exact this
  have hd : l.drop (tlen (lead l, n)) = t := by
    have e : l.drop (tlen (lead l, n)) = (descT (lead l, n) ++ t).drop (tlen (lead l, n)) := by rw [← hl]
    rw [e]
    exact List.drop_left
  rw [hd]
  exact hl
theorem firstL_len {l : List UInt8} {p : Ty} (h : firstL l = some p) : tlen p ≤ l.length := by
  have := congrArg List.length (firstL_some h).2
  rw [List.length_append] at this
  unfold tlen
  omega
theorem firstL_nil : firstL [] = none := rfl
/-- The whole text is a type's. -/
def fieldL (l : List UInt8) : Option Ty := match firstL l with
  | some p => if tlen p = l.length then some p else none
  | none => none
def argsL : Nat → List UInt8 → List Ty × List UInt8
  | 0, l => ([], l)
  | f + 1, l => match firstL l with
    | none => ([], l)
    | some p => (p :: (argsL f (l.drop (tlen p))).1, (argsL f (l.drop (tlen p))).2)
def args (l : List UInt8) : List Ty × List UInt8 := argsL l.length l
theorem argsL_fuel : ∀ (f g : Nat) (l : List UInt8), l.length ≤ f → l.length ≤ g → argsL f l = argsL g l
  | 0, 0, _, _, _ => rfl
  | 0, g + 1, l, h, _ => by
    have : l = [] := List.eq_nil_of_length_eq_zero (by omega)
    subst this
    simp [argsL, firstL_nil]
  | f + 1, 0, l, _, h => by
    have : l = [] := List.eq_nil_of_length_eq_zero (by omega)
    subst this
    simp [argsL, firstL_nil]
  | f + 1, g + 1, l, h1, h2 => by
    unfold argsL
    split
    · rfl
    · rename_i p hp
      have h3 := tlen_pos p
      have h4 := firstL_len hp
      rw [argsL_fuel f g (l.drop (tlen p)) (by rw [List.length_drop]; omega) (by rw [List.length_drop]; omega)]
theorem args_none {l : List UInt8} (h : firstL l = none) : args l = ([], l) := by
  unfold args
  cases hl : l.length with
  | zero => rfl
  | succ n => unfold argsL; rw [h]
theorem args_some {l : List UInt8} {p : Ty} (h : firstL l = some p) : args l = (p :: (args (l.drop (tlen p))).1, (args (l.drop (tlen p))).2) := by
  have h3 := tlen_pos p
  have h4 := firstL_len h
  unfold args
  obtain ⟨n, hn⟩ : ∃ n, l.length = n + 1 := ⟨l.length - 1, by omega⟩
  rw [hn]
  show (match firstL l with | none => _ | some p => _) = _
  rw [h]
  simp only
  rw [argsL_fuel n (l.drop (tlen p)).length _ (by rw [List.length_drop]; omega) (Nat.le_refl _)]
/-- What a signature answers: void, or a type. -/
def retL (l : List UInt8) : Option (Option Ty) := if l = [86] then some none else (fieldL l).map some
/-- A signature's arguments, and what it answers; none: the text has no such form. -/
def sigR : List Ty × List UInt8 → Option (List Ty × Option Ty)
  | (xs, 41 :: r) => (retL r).map fun q => (xs, q)
  | _ => none
def methL : List UInt8 → Option (List Ty × Option Ty)
  | 40 :: t => sigR (args t)
  | _ => none
/-- The piece at the front: its kind, its type, and how many bytes it has. -/
def pieceL : List UInt8 → Nat × Ty × Nat
  | [] => (1, (0, []), 0)
  | c :: t => if c = 40 then (2, (0, []), 1) else if c = 41 then (3, (0, []), 1) else if c = 86 then (4, (0, []), 1) else
    match firstL (c :: t) with
    | none => (0, (0, []), 0)
    | some p => (5, p, tlen p)
theorem pieceL_cons (c : UInt8) (t : List UInt8) : pieceL (c :: t) = if c = 40 then (2, (0, []), 1) else if c = 41 then (3, (0, []), 1) else if c = 86 then (4, (0, []), 1) else
    match firstL (c :: t) with
    | none => (0, (0, []), 0)
    | some p => (5, p, tlen p) := rfl
theorem firstL_head {c : UInt8} {t : List UInt8} {p : Ty} (h : firstL (c :: t) = some p) : c = 91 ∨ c = 73 ∨ c = 76 := by
  by_cases h1 : c = 91
  · exact .inl h1
  unfold firstL at h
  have hl : lead (c :: t) = 0 := by rw [lead_cons, if_neg h1]
  rw [hl, if_neg (by omega)] at h
  by_cases h2 : c = 73
  · exact .inr (.inl h2)
  by_cases h3 : c = 76
  · exact .inr (.inr h3)
  have hb : baseL (c :: t) = none := by rw [baseL_cons, if_neg h2, if_neg h3]
  rw [List.drop_zero, hb] at h
  exact absurd h (by simp)
theorem pieceL_type {l : List UInt8} {p : Ty} (h : firstL l = some p) : pieceL l = (5, p, tlen p) := by
  cases l with
  | nil => simp [firstL_nil] at h
  | cons c t =>
    have hc := firstL_head h
    rw [pieceL_cons, h]
    rw [if_neg (by rcases hc with rfl | rfl | rfl <;> decide), if_neg (by rcases hc with rfl | rfl | rfl <;> decide), if_neg (by rcases hc with rfl | rfl | rfl <;> decide)]
theorem pieceL_none {l : List UInt8} (h : firstL l = none) : (pieceL l).1 ≠ 5 ∧ (pieceL l).2.1 = (0, []) := by
  cases l with
  | nil => exact ⟨by decide, rfl⟩
  | cons c t =>
    rw [pieceL_cons, h]
    simp only
    repeat' split
    all_goals simp
theorem pieceL_len (l : List UInt8) : (pieceL l).2.2 ≤ l.length := by
  cases l with
  | nil => exact Nat.le_refl _
  | cons c t =>
    cases h : firstL (c :: t) with
    | some p => rw [pieceL_type h]; exact firstL_len h
    | none =>
      rw [pieceL_cons, h]
      simp only
      repeat' split
      all_goals simp
end Go.Proofs.YtmaknddlgppinaaGreatDoor
/-! Shelf -/
namespace Go.Proofs.YtmaknddlgppinaaGreatDoor
open Go.Shelf Go.RowKit

def lays137_ren : Go.Shelf.Ren := ⟨fun | 137 => 205 | 217 => 207 | 266 => 208 | n => n, fun | 9 => 9 | 5 => 5 | 3 => 3 | n => n, fun | n => n⟩
theorem lays137 : Go.Proofs.Lays.n137 Tryz.prog lays137_ren := {
  mixed := by kernel_rfl
  f137 := Tryz.func205.trans (congrArg some (by kernel_rfl))
  f217 := Tryz.func207.trans (congrArg some (by kernel_rfl))
  f266 := Tryz.func208.trans (congrArg some (by kernel_rfl))
  t3 := Tryz.underlying3
  a3 := Tryz.isAgg3
  z3 := Tryz.sizeOf3
  v3 := Tryz.zeroValue3
  t5 := Tryz.underlying5
  a5 := Tryz.isAgg5
  z5 := Tryz.sizeOf5
  v5 := Tryz.zeroValue5
  t9 := Tryz.underlying9
  a9 := Tryz.isAgg9
  z9 := Tryz.sizeOf9
  v9 := Tryz.zeroValue9 }
theorem strings_IndexByte (s : ByteArray) (c : Int) (w : World) :
    Calls Tryz.prog 205 #[.string s, .int .u8 c] w fun e w' => e = .returned (.int .i64 (Lib.indexByte s.data.toList c.toNat.toUInt8)) ∧ w' = w := Any.strings_IndexByte lays137 s c w
def lays99_ren : Go.Shelf.Ren := ⟨fun | 99 => 204 | 206 => 206 | n => n, fun | 9 => 9 | 4 => 4 | 3 => 3 | n => n, fun | n => n⟩
theorem lays99 : Go.Proofs.Lays.n99 Tryz.prog lays99_ren := {
  mixed := by kernel_rfl
  f99 := Tryz.func204.trans (congrArg some (by kernel_rfl))
  f206 := Tryz.func206.trans (congrArg some (by kernel_rfl))
  t3 := Tryz.underlying3
  a3 := Tryz.isAgg3
  z3 := Tryz.sizeOf3
  v3 := Tryz.zeroValue3
  t4 := Tryz.underlying4
  a4 := Tryz.isAgg4
  z4 := Tryz.sizeOf4
  v4 := Tryz.zeroValue4
  t9 := Tryz.underlying9
  a9 := Tryz.isAgg9
  z9 := Tryz.sizeOf9
  v9 := Tryz.zeroValue9 }
theorem strings_HasPrefix (s p : ByteArray) (w : World) :
    Calls Tryz.prog 204 #[.string s, .string p] w fun e w' => e = .returned (.bool (Lib.hasPrefix s.data.toList p.data.toList)) ∧ w' = w := Any.strings_HasPrefix lays99 s p w
end Go.Proofs.YtmaknddlgppinaaGreatDoor
/-! D1 -/
namespace Go.Proofs.YtmaknddlgppinaaGreatDoor
open Go.RowKit

theorem bcell {W w1 : World} (hb : Below W.heap.size W w1) : (∀ b o, b < W.heap.size → w1.cell? ⟨b, o, none⟩ = W.cell? ⟨b, o, none⟩) ∧ (∀ b o, b < W.heap.size → w1.frozen? ⟨b, o, none⟩ = W.frozen? ⟨b, o, none⟩) :=
  ⟨fun b o h => hb.cell (p := ⟨b, o, none⟩) h, fun b o h => hb.frozen (p := ⟨b, o, none⟩) h⟩
theorem toList_data (s : ByteArray) : s.toList = L s := Lib.toList_data s
theorem size0_nil {s : ByteArray} (h : s.size = 0) : L s = [] := List.eq_nil_of_length_eq_zero (by rw [← size_L]; exact h)
theorem sizepos_ne {s : ByteArray} (h : 0 < s.size) : L s ≠ [] := by
  intro e
  rw [size_L, e] at h
  simp at h
theorem nil_of0 {s : ByteArray} (h : s.size = 0) : s.toList = [] := by rw [toList_data]; exact size0_nil h
theorem ne_ofpos {s : ByteArray} (h : 0 < s.size) : ¬ s.toList = [] := by rw [toList_data]; exact sizepos_ne h
theorem emp_of0 {s : ByteArray} (h : s.size = 0) : s.toList.isEmpty = true := by rw [nil_of0 h]; rfl
theorem emp_ofpos {s : ByteArray} (h : 0 < s.size) : s.toList.isEmpty = false := by simpa using ne_ofpos h
end Go.Proofs.YtmaknddlgppinaaGreatDoor
/-! H1 -/
namespace Go.Proofs.YtmaknddlgppinaaGreatDoor
open Go.RowKit

/-- The link i leads to a constant with the tag t. -/
def tagged (p : List Cn) (i t : Int) : Bool := decide (1 ≤ i) && (match p[(i - 1).toNat]? with | some c => decide (c.tag = t) | none => false)
/-- The text of a name constant; empty where there is none. -/
def textP (p : List Cn) (i : Int) : ByteArray := match p[(i - 1).toNat]? with | some c => if 1 ≤ i ∧ c.tag = 1 then c.text else ⟨#[]⟩ | none => ⟨#[]⟩
theorem tagged_low {p : List Cn} {i t : Int} (h : i < 1) : tagged p i t = false := by unfold tagged; rw [decide_eq_false (by omega)]; rfl
theorem tagged_high {p : List Cn} {i t : Int} (h : (p.length : Int) < i) : tagged p i t = false := by
  unfold tagged
  rw [List.getElem?_eq_none (by omega)]
  simp
theorem tagged_at {p : List Cn} {k : Nat} {c : Cn} {t : Int} (h : p[k]? = some c) : tagged p ((k : Int) + 1) t = decide (c.tag = t) := by
  unfold tagged
  rw [show ((k : Int) + 1 - 1).toNat = k by omega, h, decide_eq_true (by omega)]
  rfl
theorem textP_at {p : List Cn} {k : Nat} {c : Cn} (h : p[k]? = some c) (ht : c.tag = 1) : textP p ((k : Int) + 1) = c.text := by
  unfold textP
  rw [show ((k : Int) + 1 - 1).toNat = k by omega, h]
  exact if_pos ⟨by omega, ht⟩
theorem link_cases (p : List Cn) (i : Int) : i < 1 ∨ (p.length : Int) < i ∨ ∃ (k : Nat) (c : Cn), i = (k : Int) + 1 ∧ p[k]? = some c ∧ k < p.length := by
  by_cases h1 : i < 1
  · exact .inl h1
  by_cases h2 : (p.length : Int) < i
  · exact .inr (.inl h2)
  have hk : (i - 1).toNat < p.length := by omega
  exact .inr (.inr ⟨(i - 1).toNat, _, by omega, List.getElem?_eq_getElem hk, hk⟩)
theorem tagged_some {p : List Cn} {i t : Int} (h : tagged p i t = true) : ∃ (k : Nat) (c : Cn), i = (k : Int) + 1 ∧ p[k]? = some c ∧ k < p.length ∧ c.tag = t := by
  rcases link_cases p i with h1 | h1 | ⟨k, c, rfl, hc, hk⟩
  · rw [tagged_low h1] at h; cases h
  · rw [tagged_high h1] at h; cases h
  · rw [tagged_at hc] at h
    exact ⟨k, c, rfl, hc, hk, of_decide_eq_true h⟩
theorem textP_none {p : List Cn} {i : Int} (h : tagged p i 1 = false) : textP p i = ⟨#[]⟩ := by
  rcases link_cases p i with h1 | h1 | ⟨k, c, rfl, hc, hk⟩
  · unfold textP
    split
    · exact if_neg (by omega)
    · rfl
  · unfold textP
    rw [List.getElem?_eq_none (by omega)]
  · rw [tagged_at hc] at h
    unfold textP
    rw [show ((k : Int) + 1 - 1).toNat = k by omega, hc]
    exact if_neg (by have := of_decide_eq_false h; omega)
set_option maxRecDepth 1000000 in
set_option maxHeartbeats 800000 in
theorem has_any {B : Nat} (f : Fl) (v : Value) (w : World) (hf : FileAt B w v f) (hB : B ≤ w.heap.size) (i t : Int) :
    Calls Tryz.prog 167 #[v, .int .i64 i, .int .i64 t] w fun e w' => e = .returned (.bool (tagged f.pool i t)) ∧ Below w.heap.size w w' := by
  obtain ⟨Ap, cp, Ai, ci, Af, cf, Am, cm, rfl, hi⟩ := hf
  have hbe : ∀ o, Below w.heap.size w (w.alloc o) := fun o => (Below.refl _ _).alloc (Nat.le_refl _) o
  have hp := hi.pool
  clear hi
  generalize f.ifs.length = ni
  generalize f.fds.length = nf
  generalize f.mts.length = nm
  obtain ⟨_, _, _, _, hmax, _⟩ := id hp
  unfold maxLen at hmax
  have HP := Lib.hid hp
  clear hp
  rcases link_cases f.pool i with h1 | h1 | ⟨k, c, rfl, hc, hk⟩
  · rw [tagged_low h1]
    generalize f.pool.length = np at *
    go_enter Tryz.func167, Tryz.ntmps167
    go_wp2
    go_ret
    exact ⟨rfl, hbe _⟩
  · rw [tagged_high h1]
    generalize f.pool.length = np at *
    have h2 : 1 ≤ i := by omega
    go_enter Tryz.func167, Tryz.ntmps167
    go_wp2
    go_ret
    exact ⟨rfl, hbe _⟩
  · rw [tagged_at hc]
    obtain ⟨b, o, rfl, hb, h0, -⟩ := HP.out.at_ hc
    have hne : b ≠ w.heap.size := by omega
    have hlt : b < w.heap.size := by omega
    have hc0 : (w.alloc (.cells #[.slice (some ⟨b, o, none⟩) f.pool.length cp, .int .i64 f.fl, .int .i64 f.this, .int .i64 f.super, .slice Ai ni ci, .slice Af nf cf, .slice Am nm cm] 94)).cell? ⟨b, o + k * 6, none⟩ = some (.int .i64 c.tag) := by rw [World.cell?_alloc_lt _ _ _ hlt]; exact h0
    clear HP hc h0
    generalize f.pool.length = np at *
    go_enter Tryz.func167, Tryz.ntmps167
    go_wp2
    go_ret
    exact ⟨rfl, hbe _⟩
theorem has_at {B : Nat} (b : Bool) (f : Fl) (v : Value) (w : World) (hf : FileAt B w v f) (hB : B ≤ w.heap.size) (i t : Int) (h : tagged f.pool i t = b) :
    Calls Tryz.prog 167 #[v, .int .i64 i, .int .i64 t] w fun e w' => e = .returned (.bool b) ∧ Below w.heap.size w w' := by
  have := has_any f v w hf hB i t
  rwa [h] at this
theorem alloc_cells (w : World) (cs : Array Value) (t : TypeId) (j : Nat) : (w.alloc (.cells cs t)).cell? ⟨w.heap.size, j, none⟩ = cs[j]? := World.cell?_alloc_mark w cs t (0, 0) j
theorem Below.link {a b c : World} (h : Below a.heap.size a b) (k : Below b.heap.size b c) : Below a.heap.size a c := h.trans (k.mono h.size)
set_option maxRecDepth 1000000 in
set_option maxHeartbeats 800000 in
theorem Name_file {B : Nat} (f : Fl) (v : Value) (w : World) (hf : FileAt B w v f) (hB : B ≤ w.heap.size) (i : Int) :
    Calls Tryz.prog 168 #[v, .int .i64 i] w fun e w' => e = .returned (.tuple #[.string (textP f.pool i), .bool (tagged f.pool i 1)]) ∧ Below w.heap.size w w' := by
  obtain ⟨Ap, cp, Ai, ci, Af, cf, Am, cm, rfl, hi⟩ := id hf
  have HBE := Lib.hid ((Below.refl w.heap.size w).alloc (Nat.le_refl _) (.cells #[.slice Ap f.pool.length cp, .int .i64 f.fl, .int .i64 f.this, .int .i64 f.super, .slice Ai f.ifs.length ci, .slice Af f.fds.length cf, .slice Am f.mts.length cm] 94))
  have hp := hi.pool
  clear hi
  obtain ⟨_, _, _, _, hmax, _⟩ := id hp
  unfold maxLen at hmax
  have HP := Lib.hid hp
  clear hp
  cases h : tagged f.pool i 1 with
  | false =>
    rw [textP_none h]
    have HF := Lib.hid (fun W hW hWB => has_at (B := B) false f _ W (hf.keep hW) hWB i 1 h)
    clear hf h HP
    generalize f.ifs.length = ni at *
    generalize f.fds.length = nf at *
    generalize f.mts.length = nm at *
    generalize f.pool.length = np at *
    go_enter Tryz.func168, Tryz.ntmps168
    go_wp2_with fail
    refine (HF.out _ (fun p hp => World.cell?_alloc_lt _ _ _ (by omega)) (by simp; omega)).mono ?_
    rintro e w1 ⟨rfl, hb⟩
    have HB := Lib.hid (Below.link HBE.out hb)
    clear hb
    go_wp2
    go_ret2
    exact ⟨rfl, HB.out⟩
  | true =>
    have HF := Lib.hid (fun W hW hWB => has_at (B := B) true f _ W (hf.keep hW) hWB i 1 h)
    obtain ⟨k, c, rfl, hc, hk, ht⟩ := tagged_some h
    rw [textP_at hc ht]
    obtain ⟨b, o, rfl, hb, _, h0, -⟩ := HP.out.at_ hc
    have hlt : b < w.heap.size := by omega
    have H0 := Lib.hid h0
    clear hf h HP h0 hc ht
    generalize f.ifs.length = ni at *
    generalize f.fds.length = nf at *
    generalize f.mts.length = nm at *
    generalize f.pool.length = np at *
    go_enter Tryz.func168, Tryz.ntmps168
    go_wp2_with fail
    refine (HF.out _ (fun p hp => World.cell?_alloc_lt _ _ _ (by omega)) (by simp; omega)).mono ?_
    rintro e w1 ⟨rfl, hb1⟩
    have HB := Lib.hid (Below.link HBE.out hb1)
    obtain ⟨hc, hf⟩ := bcell hb1
    have hsz := hb1.size
    have hz : w.heap.size < w1.heap.size := by simp at hsz; omega
    have c0 : w1.cell? ⟨b, o + k * 6 + 1, none⟩ = some (.string c.text) := by rw [hc _ _ (by simp; omega), World.cell?_alloc_lt _ _ _ hlt]; exact H0.out
    have p0 : w1.cell? ⟨w.heap.size, 0, none⟩ = some (.slice (some ⟨b, o, none⟩) np cp) := by rw [hc _ _ (by simp), alloc_cells]; rfl
    clear hb1 hc hf hsz
    go_wp2
    go_ret2
    exact ⟨rfl, HB.out⟩
theorem filecells {w w1 : World} {cs : Array Value} {t : TypeId} (hb : Below (w.alloc (.cells cs t)).heap.size (w.alloc (.cells cs t)) w1) (j : Nat) : w1.cell? ⟨w.heap.size, j, none⟩ = cs[j]? := by
  rw [hb.cell (p := ⟨w.heap.size, j, none⟩) (by simp), alloc_cells]
theorem filefree {w w1 : World} {cs : Array Value} {t : TypeId} (hb : Below (w.alloc (.cells cs t)).heap.size (w.alloc (.cells cs t)) w1) : w.heap.size < w1.heap.size := by
  have := hb.size
  simp at this
  omega
theorem FileAt.drew {B : Nat} {w : World} {v : Value} {f : Fl} (h : FileAt B w v f) : FileAt B w.drew v f := h.keep fun _ _ => rfl
theorem FileAt.link {B : Nat} {w w1 : World} {v : Value} {f : Fl} {o : Obj} (h : FileAt B w v f) (hB : B ≤ w.heap.size) (hb : Below (w.alloc o).heap.size (w.alloc o) w1) : FileAt B w1 v f := (h.alloc hB o).below hb (by simp; omega)
set_option maxRecDepth 1000000 in
set_option maxHeartbeats 800000 in
theorem textOf_any {B : Nat} (f : Fl) (v : Value) (w : World) (hf : FileAt B w v f) (hB : B ≤ w.heap.size) (i : Int) :
    Calls Tryz.prog 180 #[v, .int .i64 i] w fun e w' => e = .returned (.string (textP f.pool i)) ∧ Below w.heap.size w w' := by
  obtain ⟨Ap, cp, Ai, ci, Af, cf, Am, cm, rfl, hi⟩ := id hf
  have HBE := Lib.hid ((Below.refl w.heap.size w).alloc (Nat.le_refl _) (.cells #[.slice Ap f.pool.length cp, .int .i64 f.fl, .int .i64 f.this, .int .i64 f.super, .slice Ai f.ifs.length ci, .slice Af f.fds.length cf, .slice Am f.mts.length cm] 94))
  have hp := hi.pool
  clear hi
  obtain ⟨_, _, _, _, hmax, _⟩ := id hp
  unfold maxLen at hmax
  have HP := Lib.hid hp
  clear hp
  have HF := Lib.hid (fun W hW hWB => Name_file (B := B) f _ W (hf.keep hW) hWB i)
  clear hf
  go_enter Tryz.func180, Tryz.ntmps180
  go_wp2_with fail
  refine (HF.out _ (fun p hp => World.cell?_alloc_lt _ _ _ (by omega)) (by simp; omega)).mono ?_
  rintro e w1 ⟨rfl, hb⟩
  have HB := Lib.hid (Below.link HBE.out hb)
  clear hb
  go_wp2
  go_ret
  exact ⟨rfl, HB.out⟩
theorem keepc {W w' : World} {B q i : Nat} {v : Value} (hb : Below W.heap.size W w') (hq : q < B) (hB : B ≤ W.heap.size) (h : W.cell? ⟨q, i, none⟩ = some v) : w'.cell? ⟨q, i, none⟩ = some v :=
  (hb.cell (p := ⟨q, i, none⟩) (Nat.lt_of_lt_of_le hq hB)).trans h
/-- The name's link of a class constant. -/
def clsL (p : List Cn) (i : Int) : Int := match p[(i - 1).toNat]? with | some c => c.a | none => 0
def classP (p : List Cn) (i : Int) : ByteArray := if tagged p i 4 then textP p (clsL p i) else ⟨#[]⟩
def classB (p : List Cn) (i : Int) : Bool := tagged p i 4 && tagged p (clsL p i) 1
theorem clsL_at {p : List Cn} {k : Nat} {c : Cn} (h : p[k]? = some c) : clsL p ((k : Int) + 1) = c.a := by
  unfold clsL
  rw [show ((k : Int) + 1 - 1).toNat = k by omega, h]
set_option maxRecDepth 1000000 in
set_option maxHeartbeats 800000 in
theorem ClassName_any {B : Nat} (f : Fl) (v : Value) (w : World) (hf : FileAt B w v f) (hB : B ≤ w.heap.size) (i : Int) :
    Calls Tryz.prog 136 #[v, .int .i64 i] w fun e w' => e = .returned (.tuple #[.string (classP f.pool i), .bool (classB f.pool i)]) ∧ Below w.heap.size w w' := by
  obtain ⟨Ap, cp, Ai, ci, Af, cf, Am, cm, rfl, hi⟩ := id hf
  have HBE := Lib.hid ((Below.refl w.heap.size w).alloc (Nat.le_refl _) (.cells #[.slice Ap f.pool.length cp, .int .i64 f.fl, .int .i64 f.this, .int .i64 f.super, .slice Ai f.ifs.length ci, .slice Af f.fds.length cf, .slice Am f.mts.length cm] 94))
  have hp := hi.pool
  clear hi
  obtain ⟨_, _, _, _, hmax, _⟩ := id hp
  unfold maxLen at hmax
  have HP := Lib.hid hp
  clear hp
  cases h : tagged f.pool i 4 with
  | false =>
    have e1 : classP f.pool i = ⟨#[]⟩ := by unfold classP; rw [h]; rfl
    have e2 : classB f.pool i = false := by unfold classB; rw [h]; rfl
    rw [e1, e2]
    have HF := Lib.hid (fun W hW hWB => has_at (B := B) false f _ W (hf.keep hW) hWB i 4 h)
    clear hf h HP e1 e2
    go_enter Tryz.func136, Tryz.ntmps136
    go_wp2_with fail
    refine (HF.out _ (fun p hp => World.cell?_alloc_lt _ _ _ (by omega)) (by simp; omega)).mono ?_
    rintro e w1 ⟨rfl, hb⟩
    have HB := Lib.hid (Below.link HBE.out hb)
    clear hb
    go_wp2
    go_ret2
    exact ⟨rfl, HB.out⟩
  | true =>
    have e1 : classP f.pool i = textP f.pool (clsL f.pool i) := by unfold classP; rw [h]; rfl
    have e2 : classB f.pool i = tagged f.pool (clsL f.pool i) 1 := by unfold classB; rw [h]; rfl
    rw [e1, e2]
    have HF := Lib.hid (fun W hW hWB => has_at (B := B) true f _ W (hf.keep hW) hWB i 4 h)
    obtain ⟨k, c, rfl, hc, hk, ht⟩ := tagged_some h
    rw [clsL_at hc]
    have HT := Lib.hid (fun V W hW hWB => Name_file (B := B) f V W hW hWB c.a)
    obtain ⟨b, o, rfl, hb, _, _, _, h0, -⟩ := HP.out.at_ hc
    have hlt : b < w.heap.size := by omega
    have H0 := Lib.hid h0
    have HFL := Lib.hid hf
    clear hf h HP h0 hc ht e1 e2
    go_enter Tryz.func136, Tryz.ntmps136
    go_wp2_with fail
    refine (HF.out _ (fun p hp => World.cell?_alloc_lt _ _ _ (by omega)) (by simp; omega)).mono ?_
    rintro e w1 ⟨rfl, hb1⟩
    have BE := Below.link HBE.out hb1
    have FL := (HFL.out.link hB hb1).drew
    have c0 := filecells hb1 0
    have c1 := filecells hb1 1
    have c2 := filecells hb1 2
    have c3 := filecells hb1 3
    have c4 := filecells hb1 4
    have c5 := filecells hb1 5
    have c6 := filecells hb1 6
    have hz := filefree hb1
    have ck : w1.cell? ⟨b, o + k * 6 + 3, none⟩ = some (.int .i64 c.a) := by rw [hb1.cell (p := ⟨b, o + k * 6 + 3, none⟩) (by simp; omega), World.cell?_alloc_lt _ _ _ hlt]; exact H0.out
    simp at c0 c1 c2 c3 c4 c5 c6
    clear hb1
    go_wp2
    have hwk : IntKind.i64.wrap (k : Int) = k := IntWalk.i64_in _ (by omega)
    go_region_held3 (fun w' => w'.cell? ⟨w.heap.size, 0, none⟩ = some (.slice (some ⟨b, o, none⟩) f.pool.length cp) ∧ w'.cell? ⟨w.heap.size, 1, none⟩ = some (.int .i64 f.fl) ∧ w'.cell? ⟨w.heap.size, 2, none⟩ = some (.int .i64 f.this) ∧ w'.cell? ⟨w.heap.size, 3, none⟩ = some (.int .i64 f.super) ∧ w'.cell? ⟨w.heap.size, 4, none⟩ = some (.slice Ai f.ifs.length ci) ∧ w'.cell? ⟨w.heap.size, 5, none⟩ = some (.slice Af f.fds.length cf) ∧ w'.cell? ⟨w.heap.size, 6, none⟩ = some (.slice Am f.mts.length cm) ∧ w'.cell? ⟨b, o + k * 6 + 3, none⟩ = some (.int .i64 c.a) ∧ FileAt B w' (.agg #[.slice (some ⟨b, o, none⟩) f.pool.length cp, .int .i64 f.fl, .int .i64 f.this, .int .i64 f.super, .slice Ai f.ifs.length ci, .slice Af f.fds.length cf, .slice Am f.mts.length cm]) f ∧ w.heap.size < w'.heap.size ∧ Below w.heap.size w w')
      (first
        | exact ⟨c0, c1, c2, c3, c4, c5, c6, ck, FL, hz, BE.drew⟩
        | (go_split_ands
           refine ⟨?_, ?_, ?_, ?_, ?_, ?_, ?_, ?_, ?_, ?_, ?_⟩
           all_goals first
             | assumption
             | exact keepc hb (B := w.heap.size + 1) (by omega) (by omega) (by assumption)
             | exact FileAt.below (by assumption) hb (by omega)
             | exact Nat.lt_of_lt_of_le (by assumption) hb.size
             | exact Below.link (by assumption) hb))
      ((go_at_call 168; refine (HT.out _ _ (by first | assumption | (go_split_ands; assumption)) (by go_split_ands; omega)).mono ?_; rintro e wi ⟨rfl, hb⟩))
    all_goals
      go_split_ands
      have HB2 := Lib.hid (show Below w.heap.size w _ by assumption)
      go_wp2
      go_ret2
      exact ⟨rfl, HB2.out⟩
end Go.Proofs.YtmaknddlgppinaaGreatDoor
/-! D2 -/
namespace Go.Proofs.YtmaknddlgppinaaGreatDoor
open Go.RowKit

def mkB (l : List UInt8) : ByteArray := ⟨l.toArray⟩
theorem mkB_L (s : ByteArray) : mkB (L s) = s := by cases s; rfl
theorem eq_mkB {s : ByteArray} {l : List UInt8} (h : L s = l) : s = mkB l := by rw [← h, mkB_L]
end Go.Proofs.YtmaknddlgppinaaGreatDoor
/-! D3 -/
namespace Go.Proofs.YtmaknddlgppinaaGreatDoor
open Go.RowKit

def tw (l : List UInt8) : List UInt8 := l.takeWhile (· != 59)
theorem tw_take (l : List UInt8) : l.take (tw l).length = tw l := by
  obtain ⟨t, ht⟩ := List.takeWhile_prefix (l := l) (· != (59 : UInt8))
  have : l.take (tw l).length = (l.takeWhile (· != 59) ++ t).take (l.takeWhile (· != 59)).length := by rw [ht]; rfl
  rw [this, List.take_left]
  rfl
theorem index_tw (l : List UInt8) : Lib.indexByte l 59 = if (tw l).length < l.length then ((tw l).length : Int) else -1 := by
  induction l with
  | nil => rfl
  | cons c t ih =>
    unfold Lib.indexByte tw
    by_cases h : c = 59
    · subst h
      simp
    · have h1 : (c == 59) = false := by simpa using h
      have h2 : (c != 59) = true := by simpa using h
      rw [h1, ih, List.takeWhile_cons, if_pos h2]
      have e : (List.takeWhile (fun x => x != 59) t).length = (tw t).length := rfl
      simp only [List.length_cons, e, Bool.false_eq_true, if_false]
      by_cases hl : (tw t).length < t.length
      · rw [if_pos hl, if_pos (show (tw t).length + 1 < t.length + 1 by omega)]
        have h3 : (((tw t).length : Int) == -1) = false := by rw [beq_eq_false_iff_ne]; omega
        rw [h3]
        simp
      · rw [if_neg hl, if_neg (show ¬ (tw t).length + 1 < t.length + 1 by omega)]
        rfl
def lenB (n : List UInt8) : Nat := if n = [] then 1 else n.length + 2
def fbV : Option (List UInt8) → Value
  | none => .tuple #[.string ⟨#[]⟩, .int .i64 0]
  | some n => .tuple #[.string (mkB n), .int .i64 (lenB n)]
theorem L_extract (s : ByteArray) (a b : Nat) : L (s.extract a b) = ((L s).drop a).take (b - a) := by
  rw [L, Lib.extract_data]
theorem head_at {s : ByteArray} {c : UInt8} {t : List UInt8} (h : L s = c :: t) : ∃ hp : 0 < s.size, s[0]'hp = c := by
  have hp : 0 < s.size := by rw [size_L, h]; simp
  refine ⟨hp, ?_⟩
  have := at0_get s 0 hp
  have e : at0 s.data.toList 0 = c.toNat := by
    show at0 (L s) 0 = _
    rw [h]; rfl
  rw [e] at this
  exact UInt8.toNat_inj.1 this
set_option maxRecDepth 1000000 in
set_option maxHeartbeats 800000 in
theorem firstBase_any (s : ByteArray) (w : World) (hs : s.size ≤ 9223372036854775807) :
    Calls Tryz.prog 203 #[.string s] w fun e w' => e = .returned (fbV (baseL (L s))) ∧ Below w.heap.size w w' := by
  have HP := fun W => Lib.hid (strings_HasPrefix s ⟨#[73]⟩ W)
  have HI := fun W => Lib.hid (strings_IndexByte s 59 W)
  have hcv : (59 : Int).toNat.toUInt8 = 59 := rfl
  have hpd : (⟨#[73]⟩ : ByteArray).data.toList = [73] := rfl
  rw [hcv] at HI
  rw [hpd] at HP
  clear hcv hpd
  cases hL : L s with
  | nil =>
    have e1 : Lib.hasPrefix s.data.toList [73] = false := by rw [show s.data.toList = [] from hL]; rfl
    have e2 : Lib.indexByte s.data.toList 59 = -1 := by rw [show s.data.toList = [] from hL]; rfl
    rw [e1] at HP
    rw [e2] at HI
    clear e1 e2 hL
    go_enter Tryz.func203, Tryz.ntmps203
    go_wp2_with fail
    refine (HP _).out.mono ?_
    rintro e w' ⟨rfl, rfl⟩
    go_wp2_with fail
    refine (HI _).out.mono ?_
    rintro e w' ⟨rfl, rfl⟩
    go_wp2
    go_ret2
    exact ⟨rfl, Below.refl _ _⟩
  | cons c t =>
    by_cases h73 : c = 73
    · subst h73
      have e1 : Lib.hasPrefix s.data.toList [73] = true := by rw [show s.data.toList = _ from hL]; rfl
      rw [e1] at HP
      clear e1 hL HI
      go_enter Tryz.func203, Tryz.ntmps203
      go_wp2_with fail
      refine (HP _).out.mono ?_
      rintro e w' ⟨rfl, rfl⟩
      go_wp2
      go_ret2
      exact ⟨rfl, Below.refl _ _⟩
    · have e1 : Lib.hasPrefix s.data.toList [73] = false := by
        rw [show s.data.toList = _ from hL]
        show (73 == c && _) = false
        rw [beq_eq_false_iff_ne.2 (fun e => h73 e.symm)]
        rfl
      rw [e1] at HP
      obtain ⟨hp, hc⟩ := head_at hL
      have hat : ((s[0]'hp).toNat : Int) = (c.toNat : Int) := by rw [hc]
      have e2 : Lib.indexByte s.data.toList 59 = if (tw (c :: t)).length < (c :: t).length then ((tw (c :: t)).length : Int) else -1 := by
        rw [show s.data.toList = _ from hL]
        exact index_tw _
      have hsz : s.size = t.length + 1 := by rw [size_L, hL]; rfl
      have hb := baseL_cons c t
      rw [if_neg h73] at hb
      clear e1 hc
      by_cases h76 : c = 76
      · have e3 : tw (c :: t) = c :: tw t := by
          unfold tw
          rw [List.takeWhile_cons, if_pos (by rw [h76]; decide)]
        rw [e3] at e2
        rw [if_pos h76] at hb
        have hx : L (s.extract 1 ((tw t).length + 1)) = tw t := by
          rw [L_extract, hL]
          exact tw_take t
        have hat' : ((s[0]'hp).toNat : Int) = 76 := by rw [hat, h76]; rfl
        have etw : t.takeWhile (· != 59) = tw t := rfl
        rw [etw] at hb
        clear hat e3 etw
        by_cases hlt : (tw t).length < t.length
        · have e4 : Lib.indexByte s.data.toList 59 = (((tw t).length + 1 : Nat) : Int) := by
            rw [e2, if_pos (by simp; omega)]
            simp
          rw [e4] at HI
          have HN := fun W => Lib.hid (Name_any (s.extract 1 ((tw t).length + 1)) W)
          rw [hx] at HN
          obtain ⟨k, hk⟩ : ∃ k, (tw t).length = k := ⟨_, rfl⟩
          cases hn : nameL (tw t) with
          | false =>
            rw [if_neg (by rw [hn]; simp)] at hb
            rw [hb]
            rw [hn] at HN
            rw [hk] at HI HN hlt
            clear e2 e4 hL hb hn hx hk h76
            go_enter Tryz.func203, Tryz.ntmps203
            go_wp2_with fail
            refine (HP _).out.mono ?_
            rintro e w' ⟨rfl, rfl⟩
            go_wp2_with fail
            refine (HI _).out.mono ?_
            rintro e w' ⟨rfl, rfl⟩
            go_wp2_with fail
            refine (HN _).out.mono ?_
            rintro e w2 ⟨rfl, hb2⟩
            go_wp2
            go_ret2
            exact ⟨rfl, hb2⟩
          | true =>
            rw [if_pos ⟨hlt, hn⟩] at hb
            rw [hb]
            rw [hn] at HN
            have hfv : fbV (some (tw t)) = .tuple #[.string (s.extract 1 ((tw t).length + 1)), .int .i64 (((tw t).length + 2 : Nat) : Int)] := by
              have hne : tw t ≠ [] := by intro e; rw [e, nameL_nil] at hn; exact absurd hn (by simp)
              unfold fbV lenB
              simp only
              rw [if_neg hne, ← eq_mkB hx]
            rw [hfv]
            rw [hk] at HI HN hlt ⊢
            clear e2 e4 hL hb hn hx hk h76 hfv
            go_enter Tryz.func203, Tryz.ntmps203
            go_wp2_with fail
            refine (HP _).out.mono ?_
            rintro e w' ⟨rfl, rfl⟩
            go_wp2_with fail
            refine (HI _).out.mono ?_
            rintro e w' ⟨rfl, rfl⟩
            go_wp2_with fail
            refine (HN _).out.mono ?_
            rintro e w2 ⟨rfl, hb2⟩
            go_wp2
            go_ret2
            exact ⟨rfl, hb2⟩
        · have e4 : Lib.indexByte s.data.toList 59 = -1 := by
            rw [e2, if_neg (by simp; omega)]
          rw [if_neg (fun h => hlt h.1)] at hb
          rw [hb]
          rw [e4] at HI
          clear e2 e4 hL hb hx h76 hat'
          go_enter Tryz.func203, Tryz.ntmps203
          go_wp2_with fail
          refine (HP _).out.mono ?_
          rintro e w' ⟨rfl, rfl⟩
          go_wp2_with fail
          refine (HI _).out.mono ?_
          rintro e w' ⟨rfl, rfl⟩
          go_wp2
          go_ret2
          exact ⟨rfl, Below.refl _ _⟩
      · rw [if_neg h76] at hb
        rw [hb]
        have hat1 : (((s[0]'hp).toNat : Int) == 76) = false := by
          rw [hat, beq_eq_false_iff_ne]
          intro e
          exact h76 (UInt8.toNat_inj.1 (by have : c.toNat = 76 := by omega
                                           rw [this]; rfl))
        have hat2 : (((s[0]'hp).toNat : Int) != 76) = true := by rw [bne, hat1]; rfl
        obtain ⟨z, hz⟩ : ∃ z, Lib.indexByte s.data.toList 59 = z := ⟨_, rfl⟩
        have hzr : -1 ≤ z := by rw [← hz]; exact Lib.indexByte_ge _ _
        rw [hz] at HI
        clear e2 hL hb h76 hat hz
        by_cases hz0 : z < 0
        all_goals
          go_enter Tryz.func203, Tryz.ntmps203
          go_wp2_with fail
          refine (HP _).out.mono ?_
          rintro e w' ⟨rfl, rfl⟩
          go_wp2_with fail
          refine (HI _).out.mono ?_
          rintro e w' ⟨rfl, rfl⟩
          go_wp2
          go_ret2
          exact ⟨rfl, Below.refl _ _⟩
/-- What is told of the front: the type, and how many bytes it has; 0: there is none. -/
def ftV : Option Ty → Value
  | none => .tuple #[.agg #[.int .i64 0, .string ⟨#[]⟩], .int .i64 0]
  | some p => .tuple #[.agg #[.int .i64 p.1, .string (mkB p.2)], .int .i64 (tlen p)]
theorem fb_some {n : List UInt8} : fbV (some n) = .tuple #[.string (mkB n), .int .i64 (lenB n)] := rfl
theorem lenB_tlen (d : Nat) (n : List UInt8) : tlen (d, n) = d + lenB n := by
  unfold tlen lenB
  rw [descT_len]
theorem lead_le_size (s : ByteArray) : lead (L s) ≤ s.size := by rw [size_L]; exact lead_le _
theorem firstL_min (l : List UInt8) : firstL l = (baseL (l.drop (min 4 (lead l)))).map fun n => (min 4 (lead l), n) := by
  unfold firstL
  by_cases h : 4 < lead l
  · rw [if_pos h]
    have hm : min 4 (lead l) = 4 := by omega
    rw [hm]
    have h91 : at0 (l.drop 4) 0 = 91 := by rw [at0_drop]; exact lead_at l 4 h
    cases hd : l.drop 4 with
    | nil => rfl
    | cons c t =>
      rw [hd] at h91
      have hc : c = 91 := UInt8.toNat_inj.1 h91
      subst hc
      rfl
  · rw [if_neg h]
    have hm : min 4 (lead l) = lead l := by omega
    rw [hm]
set_option maxRecDepth 1000000 in
set_option maxHeartbeats 1600000 in
theorem firstType_any (s : ByteArray) (w : World) (hs : s.size ≤ 9223372036854775807) :
    Calls Tryz.prog 202 #[.string s] w fun e w' => e = .returned (ftV (firstL (L s))) ∧ Below w.heap.size w w' := by
  rw [firstL_min]
  obtain ⟨m, hm⟩ : ∃ m, min 4 (lead (L s)) = m := ⟨_, rfl⟩
  have hls := lead_le_size s
  have hm4 : m ≤ 4 := by omega
  have hml : m ≤ s.size := by omega
  have hx : L (s.extract m s.size) = (L s).drop m := Lib.extract_to_end s m
  have hxs : (s.extract m s.size).size ≤ 9223372036854775807 := by rw [size_L, hx, List.length_drop, ← size_L]; omega
  have HB := fun W => Lib.hid (firstBase_any (s.extract m s.size) W hxs)
  rw [hx] at HB
  have HAT : Hid (∀ k (hk : k < s.size), k < m → ((s[k]'hk).toNat : Int) = 91) := fun k hk h => by
    rw [at0_get s k hk]
    exact congrArg _ (lead_at (L s) k (by omega))
  have HEND : Hid (∀ (hk : m < s.size), m < 4 → (((s[m]'hk).toNat : Int) == 91) = false) := fun hk h4 => by
    have e : m = lead (L s) := by omega
    rw [at0_get s _ hk, beq_eq_false_iff_ne]
    have := lead_end (L s) (by rw [← size_L, ← e]; exact hk)
    rw [← e] at this
    intro e
    exact this (by exact_mod_cast e)
  rw [hm]
  have HBE := Lib.hid ((Below.refl w.heap.size w).alloc (Nat.le_refl _) (.cells #[.int .i64 0, .string ⟨#[]⟩] 31))
  have hlen : ∀ n, baseL ((L s).drop m) = some n → m + lenB n ≤ s.size ∧ 1 ≤ lenB n := fun n hn => by
    obtain ⟨_, t, ht⟩ := baseL_some hn
    have := congrArg List.length ht
    rw [List.length_drop, ← size_L, List.length_append] at this
    unfold lenB
    split at this <;> rename_i hh
    · rw [if_pos hh]; simp at this; omega
    · rw [if_neg hh]; simp at this; omega
  clear hls hx hxs
  generalize baseL ((L s).drop m) = bl at *
  cases bl with
  | none =>
    clear hm hlen
    rw [show fbV none = .tuple #[.string ⟨#[]⟩, .int .i64 0] from rfl] at HB
    show Calls Tryz.prog 202 #[.string s] w fun e w' => e = .returned (.tuple #[.agg #[.int .i64 0, .string ⟨#[]⟩], .int .i64 0]) ∧ Below w.heap.size w w'
    go_enter Tryz.func202, Tryz.ntmps202
    go_wp2
    go_loop [4] (fun i => ∃ k : Nat, k ≤ m ∧ i = .int .i64 k) (fun i => m - (intOf i).toNat)
    case atStart => exact ⟨0, Nat.zero_le _, rfl⟩
    case round =>
      obtain ⟨k, hk, rfl⟩ := hrel
      by_cases hlt : k < m
      · have hz : k < s.size := by omega
        have hb := HAT.out k hz hlt
        go_wp2
        go_round
        case rel => exact ⟨k + 1, by omega, by go_num⟩
        case measure => simp [intOf]; omega
      · obtain rfl : k = m := by omega
        have hcase : 4 ≤ k ∨ (k < 4 ∧ s.size ≤ k) ∨ (k < 4 ∧ k < s.size) := by omega
        rcases hcase with h4 | ⟨h4, hz⟩ | ⟨h4, hz⟩
        rotate_right
        have hne := HEND.out hz h4
        all_goals
          go_wp2_with fail
          refine (HB _).out.mono ?_
          rintro e w2 ⟨rfl, hb2⟩
          obtain ⟨hc, hf⟩ := bcell hb2
          have hs2 := hb2.size
          have hz2 : w.heap.size < w2.heap.size := by simp at hs2; omega
          have HB2 := Lib.hid (HBE.out.trans (hb2.mono (by simp)))
          go_wp2
          refine bodyPost_ret (v := .tuple #[.agg #[.int .i64 0, .string ⟨#[]⟩], .int .i64 0]) (by simp [results, Tryz.results202, go_sem, hc]) rfl ⟨rfl, ?_⟩
          exact (HB2.out.setCell (Nat.le_refl _) _).setCell (by simp) _
  | some n =>
    obtain ⟨hl1, hl2⟩ := hlen n rfl
    have HT := Lib.hid (lenB_tlen m n)
    rw [fb_some] at HB
    show Calls Tryz.prog 202 #[.string s] w fun e w' => e = .returned (.tuple #[.agg #[.int .i64 (m : Int), .string (mkB n)], .int .i64 (tlen (m, n))]) ∧ Below w.heap.size w w'
    rw [HT.out]
    generalize lenB n = b at *
    clear hm hlen HT
    go_enter Tryz.func202, Tryz.ntmps202
    go_wp2
    go_loop [4] (fun i => ∃ k : Nat, k ≤ m ∧ i = .int .i64 k) (fun i => m - (intOf i).toNat)
    case atStart => exact ⟨0, Nat.zero_le _, rfl⟩
    case round =>
      obtain ⟨k, hk, rfl⟩ := hrel
      by_cases hlt : k < m
      · have hz : k < s.size := by omega
        have hb := HAT.out k hz hlt
        go_wp2
        go_round
        case rel => exact ⟨k + 1, by omega, by go_num⟩
        case measure => simp [intOf]; omega
      · obtain rfl : k = m := by omega
        have hcase : 4 ≤ k ∨ (k < 4 ∧ k < s.size) := by omega
        have hb0 : (((b : Nat) : Int) == 0) = false := by rw [beq_eq_false_iff_ne]; omega
        rcases hcase with h4 | ⟨h4, hz⟩
        rotate_right
        have hne := HEND.out hz h4
        all_goals
          go_wp2_with fail
          refine (HB _).out.mono ?_
          rintro e w2 ⟨rfl, hb2⟩
          obtain ⟨hc, hf⟩ := bcell hb2
          have hs2 := hb2.size
          have hz2 : w.heap.size < w2.heap.size := by simp at hs2; omega
          have HB2 := Lib.hid (HBE.out.trans (hb2.mono (by simp)))
          go_wp2
          refine bodyPost_ret (v := .tuple #[.agg #[.int .i64 (k : Int), .string (mkB n)], .int .i64 ((k + b : Nat) : Int)]) (by simp [results, Tryz.results202, go_sem, hc]) rfl ⟨rfl, ?_⟩
          exact (HB2.out.setCell (Nat.le_refl _) _).setCell (by simp) _
end Go.Proofs.YtmaknddlgppinaaGreatDoor
