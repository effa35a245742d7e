/-
  PRUNED by wip/tools/prunem.py: what these texts need of an earlier stage's.
-/
import Derived.Test.YtcgloepfnnfioaaD2
set_option linter.unusedVariables false
set_option linter.unusedSimpArgs false
namespace Go.Proofs.Ytcgloepfnnfioaa
open Go.RowKit

def tw (l : List UInt8) : List UInt8 := l.takeWhile (· != 59)
theorem tw_le (l : List UInt8) : (tw l).length ≤ l.length := (List.takeWhile_prefix _).length_le
theorem tw_take (l : List UInt8) : l.take (tw l).length = tw l := by
  obtain ⟨t, ht⟩ := List.takeWhile_prefix (l := l) (· != (59 : UInt8))
  have : l.take (tw l).length = (l.takeWhile (· != 59) ++ t).take (l.takeWhile (· != 59)).length := by rw [ht]; rfl
  rw [this, List.take_left]
  rfl
theorem index_tw (l : List UInt8) : Lib.indexByte l 59 = if (tw l).length < l.length then ((tw l).length : Int) else -1 := by
  induction l with
  | nil => rfl
  | cons c t ih =>
    unfold Lib.indexByte tw
    by_cases h : c = 59
    · subst h
      simp
    · have h1 : (c == 59) = false := by simpa using h
      have h2 : (c != 59) = true := by simpa using h
      rw [h1, ih, List.takeWhile_cons, if_pos h2]
      have e : (List.takeWhile (fun x => x != 59) t).length = (tw t).length := rfl
      simp only [List.length_cons, e, Bool.false_eq_true, if_false]
      by_cases hl : (tw t).length < t.length
      · rw [if_pos hl, if_pos (show (tw t).length + 1 < t.length + 1 by omega)]
        have h3 : (((tw t).length : Int) == -1) = false := by rw [beq_eq_false_iff_ne]; omega
        rw [h3]
        simp
      · rw [if_neg hl, if_neg (show ¬ (tw t).length + 1 < t.length + 1 by omega)]
        rfl
def lenB (n : List UInt8) : Nat := if n = [] then 1 else n.length + 2
def fbV : Option (List UInt8) → Value
  | none => .tuple #[.string ⟨#[]⟩, .int .i64 0]
  | some n => .tuple #[.string (mkB n), .int .i64 (lenB n)]
theorem L_extract (s : ByteArray) (a b : Nat) : L (s.extract a b) = ((L s).drop a).take (b - a) := by
  rw [L, Lib.extract_data]
theorem head_at {s : ByteArray} {c : UInt8} {t : List UInt8} (h : L s = c :: t) : ∃ hp : 0 < s.size, s[0]'hp = c := by
  have hp : 0 < s.size := by rw [size_L, h]; simp
  refine ⟨hp, ?_⟩
  have := at0_get s 0 hp
  have e : at0 s.data.toList 0 = c.toNat := by
    show at0 (L s) 0 = _
    rw [h]; rfl
  rw [e] at this
  exact UInt8.toNat_inj.1 this
set_option maxRecDepth 1000000 in
set_option maxHeartbeats 800000 in
theorem firstBase_any (s : ByteArray) (w : World) (hs : s.size ≤ 9223372036854775807) :
    Calls Try.prog 127 #[.string s] w fun e w' => e = .returned (fbV (baseL (L s))) ∧ Below w.heap.size w w' := by
  have HP := fun W => Lib.hid (strings_HasPrefix s ⟨#[73]⟩ W)
  have HI := fun W => Lib.hid (strings_IndexByte s 59 W)
  have hcv : (59 : Int).toNat.toUInt8 = 59 := rfl
  have hpd : (⟨#[73]⟩ : ByteArray).data.toList = [73] := rfl
  rw [hcv] at HI
  rw [hpd] at HP
  clear hcv hpd
  cases hL : L s with
  | nil =>
    have e1 : Lib.hasPrefix s.data.toList [73] = false := by rw [show s.data.toList = [] from hL]; rfl
    have e2 : Lib.indexByte s.data.toList 59 = -1 := by rw [show s.data.toList = [] from hL]; rfl
    rw [e1] at HP
    rw [e2] at HI
    clear e1 e2 hL
    go_enter Try.func127, Try.ntmps127
    go_wp2_with fail
    refine (HP _).out.mono ?_
    rintro e w' ⟨rfl, rfl⟩
    go_wp2_with fail
    refine (HI _).out.mono ?_
    rintro e w' ⟨rfl, rfl⟩
    go_wp2
    go_ret2
    exact ⟨rfl, Below.refl _ _⟩
  | cons c t =>
    by_cases h73 : c = 73
    · subst h73
      have e1 : Lib.hasPrefix s.data.toList [73] = true := by rw [show s.data.toList = _ from hL]; rfl
      rw [e1] at HP
      clear e1 hL HI
      go_enter Try.func127, Try.ntmps127
      go_wp2_with fail
      refine (HP _).out.mono ?_
      rintro e w' ⟨rfl, rfl⟩
      go_wp2
      go_ret2
      exact ⟨rfl, Below.refl _ _⟩
    · have e1 : Lib.hasPrefix s.data.toList [73] = false := by
        rw [show s.data.toList = _ from hL]
        show (73 == c && _) = false
        rw [beq_eq_false_iff_ne.2 (fun e => h73 e.symm)]
        rfl
      rw [e1] at HP
      obtain ⟨hp, hc⟩ := head_at hL
      have hat : ((s[0]'hp).toNat : Int) = (c.toNat : Int) := by rw [hc]
      have e2 : Lib.indexByte s.data.toList 59 = if (tw (c :: t)).length < (c :: t).length then ((tw (c :: t)).length : Int) else -1 := by
        rw [show s.data.toList = _ from hL]
        exact index_tw _
      have hsz : s.size = t.length + 1 := by rw [size_L, hL]; rfl
      have hb := baseL_cons c t
      rw [if_neg h73] at hb
      clear e1 hc
      by_cases h76 : c = 76
      · have e3 : tw (c :: t) = c :: tw t := by
          unfold tw
          rw [List.takeWhile_cons, if_pos (by rw [h76]; decide)]
        rw [e3] at e2
        rw [if_pos h76] at hb
        have hx : L (s.extract 1 ((tw t).length + 1)) = tw t := by
          rw [L_extract, hL]
          exact tw_take t
        have hat' : ((s[0]'hp).toNat : Int) = 76 := by rw [hat, h76]; rfl
        have etw : t.takeWhile (· != 59) = tw t := rfl
        rw [etw] at hb
        clear hat e3 etw
        by_cases hlt : (tw t).length < t.length
        · have e4 : Lib.indexByte s.data.toList 59 = (((tw t).length + 1 : Nat) : Int) := by
            rw [e2, if_pos (by simp; omega)]
            simp
          rw [e4] at HI
          have HN := fun W => Lib.hid (Name_any (s.extract 1 ((tw t).length + 1)) W)
          rw [hx] at HN
          obtain ⟨k, hk⟩ : ∃ k, (tw t).length = k := ⟨_, rfl⟩
          cases hn : nameL (tw t) with
          | false =>
            rw [if_neg (by rw [hn]; simp)] at hb
            rw [hb]
            rw [hn] at HN
            rw [hk] at HI HN hlt
            clear e2 e4 hL hb hn hx hk h76
            go_enter Try.func127, Try.ntmps127
            go_wp2_with fail
            refine (HP _).out.mono ?_
            rintro e w' ⟨rfl, rfl⟩
            go_wp2_with fail
            refine (HI _).out.mono ?_
            rintro e w' ⟨rfl, rfl⟩
            go_wp2_with fail
            refine (HN _).out.mono ?_
            rintro e w2 ⟨rfl, hb2⟩
            go_wp2
            go_ret2
            exact ⟨rfl, hb2⟩
          | true =>
            rw [if_pos ⟨hlt, hn⟩] at hb
            rw [hb]
            rw [hn] at HN
            have hfv : fbV (some (tw t)) = .tuple #[.string (s.extract 1 ((tw t).length + 1)), .int .i64 (((tw t).length + 2 : Nat) : Int)] := by
              have hne : tw t ≠ [] := by intro e; rw [e, nameL_nil] at hn; exact absurd hn (by simp)
              unfold fbV lenB
              simp only
              rw [if_neg hne, ← eq_mkB hx]
            rw [hfv]
            rw [hk] at HI HN hlt ⊢
            clear e2 e4 hL hb hn hx hk h76 hfv
            go_enter Try.func127, Try.ntmps127
            go_wp2_with fail
            refine (HP _).out.mono ?_
            rintro e w' ⟨rfl, rfl⟩
            go_wp2_with fail
            refine (HI _).out.mono ?_
            rintro e w' ⟨rfl, rfl⟩
            go_wp2_with fail
            refine (HN _).out.mono ?_
            rintro e w2 ⟨rfl, hb2⟩
            go_wp2
            go_ret2
            exact ⟨rfl, hb2⟩
        · have e4 : Lib.indexByte s.data.toList 59 = -1 := by
            rw [e2, if_neg (by simp; omega)]
          rw [if_neg (fun h => hlt h.1)] at hb
          rw [hb]
          rw [e4] at HI
          clear e2 e4 hL hb hx h76 hat'
          go_enter Try.func127, Try.ntmps127
          go_wp2_with fail
          refine (HP _).out.mono ?_
          rintro e w' ⟨rfl, rfl⟩
          go_wp2_with fail
          refine (HI _).out.mono ?_
          rintro e w' ⟨rfl, rfl⟩
          go_wp2
          go_ret2
          exact ⟨rfl, Below.refl _ _⟩
      · rw [if_neg h76] at hb
        rw [hb]
        have hat1 : (((s[0]'hp).toNat : Int) == 76) = false := by
          rw [hat, beq_eq_false_iff_ne]
          intro e
          exact h76 (UInt8.toNat_inj.1 (by have : c.toNat = 76 := by omega
                                           rw [this]; rfl))
        have hat2 : (((s[0]'hp).toNat : Int) != 76) = true := by rw [bne, hat1]; rfl
        obtain ⟨z, hz⟩ : ∃ z, Lib.indexByte s.data.toList 59 = z := ⟨_, rfl⟩
        have hzr : -1 ≤ z := by rw [← hz]; exact Lib.indexByte_ge _ _
        rw [hz] at HI
        clear e2 hL hb h76 hat hz
        by_cases hz0 : z < 0
        all_goals
          go_enter Try.func127, Try.ntmps127
          go_wp2_with fail
          refine (HP _).out.mono ?_
          rintro e w' ⟨rfl, rfl⟩
          go_wp2_with fail
          refine (HI _).out.mono ?_
          rintro e w' ⟨rfl, rfl⟩
          go_wp2
          go_ret2
          exact ⟨rfl, Below.refl _ _⟩
/-- What is told of the front: the type, and how many bytes it has; 0: there is none. -/
def ftV : Option Ty → Value
  | none => .tuple #[.agg #[.int .i64 0, .string ⟨#[]⟩], .int .i64 0]
  | some p => .tuple #[.agg #[.int .i64 p.1, .string (mkB p.2)], .int .i64 (tlen p)]
theorem fb_some {n : List UInt8} : fbV (some n) = .tuple #[.string (mkB n), .int .i64 (lenB n)] := rfl
theorem lenB_tlen (d : Nat) (n : List UInt8) : tlen (d, n) = d + lenB n := by
  unfold tlen lenB
  rw [descT_len]
theorem lead_le_size (s : ByteArray) : lead (L s) ≤ s.size := by rw [size_L]; exact lead_le _
theorem firstL_min (l : List UInt8) : firstL l = (baseL (l.drop (min 4 (lead l)))).map fun n => (min 4 (lead l), n) := by
  unfold firstL
  by_cases h : 4 < lead l
  · rw [if_pos h]
    have hm : min 4 (lead l) = 4 := by omega
    rw [hm]
    have h91 : at0 (l.drop 4) 0 = 91 := by rw [at0_drop]; exact lead_at l 4 h
    cases hd : l.drop 4 with
    | nil => rfl
    | cons c t =>
      rw [hd] at h91
      have hc : c = 91 := UInt8.toNat_inj.1 h91
      subst hc
      rfl
  · rw [if_neg h]
    have hm : min 4 (lead l) = lead l := by omega
    rw [hm]
set_option maxRecDepth 1000000 in
set_option maxHeartbeats 1600000 in
theorem firstType_any (s : ByteArray) (w : World) (hs : s.size ≤ 9223372036854775807) :
    Calls Try.prog 124 #[.string s] w fun e w' => e = .returned (ftV (firstL (L s))) ∧ Below w.heap.size w w' := by
  rw [firstL_min]
  obtain ⟨m, hm⟩ : ∃ m, min 4 (lead (L s)) = m := ⟨_, rfl⟩
  have hls := lead_le_size s
  have hm4 : m ≤ 4 := by omega
  have hml : m ≤ s.size := by omega
  have hx : L (s.extract m s.size) = (L s).drop m := Lib.extract_to_end s m
  have hxs : (s.extract m s.size).size ≤ 9223372036854775807 := by rw [size_L, hx, List.length_drop, ← size_L]; omega
  have HB := fun W => Lib.hid (firstBase_any (s.extract m s.size) W hxs)
  rw [hx] at HB
  have HAT : Hid (∀ k (hk : k < s.size), k < m → ((s[k]'hk).toNat : Int) = 91) := fun k hk h => by
    rw [at0_get s k hk]
    exact congrArg _ (lead_at (L s) k (by omega))
  have HEND : Hid (∀ (hk : m < s.size), m < 4 → (((s[m]'hk).toNat : Int) == 91) = false) := fun hk h4 => by
    have e : m = lead (L s) := by omega
    rw [at0_get s _ hk, beq_eq_false_iff_ne]
    have := lead_end (L s) (by rw [← size_L, ← e]; exact hk)
    rw [← e] at this
    intro e
    exact this (by exact_mod_cast e)
  rw [hm]
  have HBE := Lib.hid ((Below.refl w.heap.size w).alloc (Nat.le_refl _) (.cells #[.int .i64 0, .string ⟨#[]⟩] 98))
  have hlen : ∀ n, baseL ((L s).drop m) = some n → m + lenB n ≤ s.size ∧ 1 ≤ lenB n := fun n hn => by
    obtain ⟨_, t, ht⟩ := baseL_some hn
    have := congrArg List.length ht
    rw [List.length_drop, ← size_L, List.length_append] at this
    unfold lenB
    split at this <;> rename_i hh
    · rw [if_pos hh]; simp at this; omega
    · rw [if_neg hh]; simp at this; omega
  clear hls hx hxs
  generalize baseL ((L s).drop m) = bl at *
  cases bl with
  | none =>
    clear hm hlen
    rw [show fbV none = .tuple #[.string ⟨#[]⟩, .int .i64 0] from rfl] at HB
    show Calls Try.prog 124 #[.string s] w fun e w' => e = .returned (.tuple #[.agg #[.int .i64 0, .string ⟨#[]⟩], .int .i64 0]) ∧ Below w.heap.size w w'
    go_enter Try.func124, Try.ntmps124
    go_wp2
    go_loop [4] (fun i => ∃ k : Nat, k ≤ m ∧ i = .int .i64 k) (fun i => m - (intOf i).toNat)
    case atStart => exact ⟨0, Nat.zero_le _, rfl⟩
    case round =>
      obtain ⟨k, hk, rfl⟩ := hrel
      by_cases hlt : k < m
      · have hz : k < s.size := by omega
        have hb := HAT.out k hz hlt
        go_wp2
        go_round
        case rel => exact ⟨k + 1, by omega, by go_num⟩
        case measure => simp [intOf]; omega
      · obtain rfl : k = m := by omega
        have hcase : 4 ≤ k ∨ (k < 4 ∧ s.size ≤ k) ∨ (k < 4 ∧ k < s.size) := by omega
        rcases hcase with h4 | ⟨h4, hz⟩ | ⟨h4, hz⟩
        rotate_right
        have hne := HEND.out hz h4
        all_goals
          go_wp2_with fail
          refine (HB _).out.mono ?_
          rintro e w2 ⟨rfl, hb2⟩
          obtain ⟨hc, hf⟩ := bcell hb2
          have hs2 := hb2.size
          have hz2 : w.heap.size < w2.heap.size := by simp at hs2; omega
          have HB2 := Lib.hid (HBE.out.trans (hb2.mono (by simp)))
          go_wp2
          refine bodyPost_ret (v := .tuple #[.agg #[.int .i64 0, .string ⟨#[]⟩], .int .i64 0]) (by simp [results, Try.results124, go_sem, hc]) rfl ⟨rfl, ?_⟩
          exact (HB2.out.setCell (Nat.le_refl _) _).setCell (by simp) _
  | some n =>
    obtain ⟨hl1, hl2⟩ := hlen n rfl
    have HT := Lib.hid (lenB_tlen m n)
    rw [fb_some] at HB
    show Calls Try.prog 124 #[.string s] w fun e w' => e = .returned (.tuple #[.agg #[.int .i64 (m : Int), .string (mkB n)], .int .i64 (tlen (m, n))]) ∧ Below w.heap.size w w'
    rw [HT.out]
    generalize lenB n = b at *
    clear hm hlen HT
    go_enter Try.func124, Try.ntmps124
    go_wp2
    go_loop [4] (fun i => ∃ k : Nat, k ≤ m ∧ i = .int .i64 k) (fun i => m - (intOf i).toNat)
    case atStart => exact ⟨0, Nat.zero_le _, rfl⟩
    case round =>
      obtain ⟨k, hk, rfl⟩ := hrel
      by_cases hlt : k < m
      · have hz : k < s.size := by omega
        have hb := HAT.out k hz hlt
        go_wp2
        go_round
        case rel => exact ⟨k + 1, by omega, by go_num⟩
        case measure => simp [intOf]; omega
      · obtain rfl : k = m := by omega
        have hcase : 4 ≤ k ∨ (k < 4 ∧ k < s.size) := by omega
        have hb0 : (((b : Nat) : Int) == 0) = false := by rw [beq_eq_false_iff_ne]; omega
        rcases hcase with h4 | ⟨h4, hz⟩
        rotate_right
        have hne := HEND.out hz h4
        all_goals
          go_wp2_with fail
          refine (HB _).out.mono ?_
          rintro e w2 ⟨rfl, hb2⟩
          obtain ⟨hc, hf⟩ := bcell hb2
          have hs2 := hb2.size
          have hz2 : w.heap.size < w2.heap.size := by simp at hs2; omega
          have HB2 := Lib.hid (HBE.out.trans (hb2.mono (by simp)))
          go_wp2
          refine bodyPost_ret (v := .tuple #[.agg #[.int .i64 (k : Int), .string (mkB n)], .int .i64 ((k + b : Nat) : Int)]) (by simp [results, Try.results124, go_sem, hc]) rfl ⟨rfl, ?_⟩
          exact (HB2.out.setCell (Nat.le_refl _) _).setCell (by simp) _
end Go.Proofs.Ytcgloepfnnfioaa
