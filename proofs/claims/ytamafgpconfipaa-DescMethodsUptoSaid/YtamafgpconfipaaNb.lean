/-
  WALKS of the document's 'Write' for names of up to two million bytes (as Nm, D1, D2 have it for a million).
-/
import Derived.Test.YtamafgpconfipaaD2
set_option linter.unusedVariables false
set_option linter.unusedSimpArgs false
namespace Go.Proofs.Ytamafgpconfipaa.Big
open Go.RowKit
open Go.Lib (decodeN)
set_option maxRecDepth 1000000 in
set_option maxHeartbeats 800000 in
theorem refRunes_any (s : ByteArray) (w : World) (hs : s.size ≤ 2000000) :
    Calls Try.prog 36 #[.string s] w fun e w' => ∃ v, e = .returned (.tuple #[v, .bool (validL (L s))]) ∧ w'.ownsRow w.heap.size 3 1 v (ints (runes (L s))).length (icells (ints (runes (L s)))) ∧ Below w.heap.size w w' := by
  have hlen := runes_length_le (L s)
  rw [← size_L] at hlen
  have HLEN := Lib.hid hlen
  clear hlen
  obtain ⟨i0, hi, hz0, hz1, hz2⟩ := info_parts Try.info3
  go_enter Try.func36, Try.ntmps36
  go_wp2
  go_loopw [0, 4, 5, 6, 7] (fun x v ok _ _ wr => ∃ (t : ByteArray) (b : Bool) (done : List Nat), x = .string t ∧ ok = .bool b ∧ t.size ≤ s.size ∧ wr.ownsRow w.heap.size 3 1 v (ints done).length (icells (ints done)) ∧ done ++ runes (L t) = runes (L s) ∧ (b && validL (L t)) = validL (L s) ∧ Below w.heap.size w wr) (fun x _ _ _ _ _ => strSize x)
  case atStart => exact ⟨s, true, [], rfl, rfl, Nat.le_refl _, World.ownsRow_nil _ _ _ _, by simp, by simp, Below.refl _ _⟩
  case round =>
    obtain ⟨t, b, done, rfl, rfl, hts, hown, hrem, hval, hbel⟩ := hrel
    have HOWN := Lib.hid hown
    have HREM := Lib.hid hrem
    have HVAL := Lib.hid hval
    have hbs := hbel.size
    clear hown hrem hval
    have hdl : done.length ≤ 2000000 := by
      have a := congrArg List.length HREM.out
      have c := HLEN.out
      simp only [List.length_append] at a
      omega
    by_cases hp : 0 < t.size
    · have hne : L t ≠ [] := by
        intro e
        have : t.size = 0 := by rw [size_L, e]; rfl
        omega
      have hwl := dec_width_le _ hne
      have hw1 := (dec_width (L t)).1
      have hrc := runes_cons _ hne
      have hvc := validL_cons _ hne
      have hru := dec_rune (L t)
      obtain ⟨r, n, hd⟩ : ∃ r n, dec (L t) = (r, n) := ⟨_, _, rfl⟩
      rw [hd] at hwl hw1 hrc hvc hru
      rw [← size_L] at hwl
      simp only at hwl hw1 hrc hvc hru
      have HRC := Lib.hid hrc
      have HVC := Lib.hid hvc
      have hex : ∀ n, L (t.extract n t.size) = (L t).drop n := fun n => Lib.extract_to_end t n
      have hexs : ∀ n, (t.extract n t.size).size = t.size - n := fun n => by rw [size_L, hex, List.length_drop, ← size_L]
      have HEX := Lib.hid hex
      have HEXS := Lib.hid hexs
      clear hrc hvc hne hex hexs
      by_cases hbad : bad (r, n) = true
      · have hrn : r = 65533 ∧ n = 1 := by simpa [bad] using hbad
        obtain ⟨rfl, rfl⟩ := hrn
        have hnx : nextL (L t) = (0, 0) := by rw [nextL_of hd]; rfl
        have HN := Lib.hid (next_at t wr (L t) 0 0 hp rfl hnx)
        have HBAD := Lib.hid hbad
        clear hd hnx hbad
        go_wp2_with (first | (go_at_call 46; refine HN.out.mono ?_; rintro e w' ⟨rfl, rfl⟩) | (at_builtin; refine wpList_append_own _ rfl (.tmp 18) (.tmp 20) 60 rfl w.heap.size 3 i0 (.int .i64 0) 1 8 Try.underlying60 hi hz0 hz1 hz2 rfl (by decide) _ _ _ rfl (HOWN.out.alloc _) ⟨wr.heap.size, 0, none⟩ 1 1 [.int .i64 65533] rfl rfl ?c1 ?c2 ?c3 ?c4 ?c5 ?_))
        case c1 => exact new_cells wr [.int .i64 65533] 3
        case c2 => exact int_cells .i64 [65533]
        case c3 => rw [ints_length]; unfold maxLen; omega
        case c4 => rw [ints_length]; omega
        case c5 => simp; omega
        intro v' w1 hown' hgrow _
        have HO' := Lib.hid hown'
        have hB1 : Below w.heap.size w w1 := (hbel.alloc (by omega) _).grown hgrow (by simp; omega) (fun k hk => (HOWN.out.lt k hk).1)
        clear hown' hgrow
        go_wp2
        go_roundw
        case rel =>
          refine ⟨t.extract 1 t.size, false, done ++ [65533], rfl, rfl, by rw [HEXS.out]; omega, ?_, ?_, ?_, hB1⟩
          · have := HO'.out
            rw [ints_append, icells_append, List.length_append]
            exact this
          · rw [List.append_assoc, HEX.out, ← HREM.out, HRC.out]
            rfl
          · rw [← HVAL.out, HVC.out, HBAD.out]
            simp
        case measure => simp only [strSize]; rw [HEXS.out]; omega
      · have hbad' : bad (r, n) = false := by simpa using hbad
        have hnx : nextL (L t) = (r, n) := by
          rw [nextL_of hd, if_neg]
          intro h
          rw [h] at hbad'
          simp [bad] at hbad'
        have HN := Lib.hid (next_at t wr (L t) r n hp rfl hnx)
        have HBAD := Lib.hid hbad'
        have hn0 : ((n : Int) == 0) = false := by rw [beq_eq_false_iff_ne]; omega
        have hn4 : n ≤ 4 := by have := (dec_width (L t)).2; rw [hd] at this; exact this
        clear hd hnx hbad hbad'
        go_wp2_with (first | (go_at_call 46; refine HN.out.mono ?_; rintro e w' ⟨rfl, rfl⟩) | (at_builtin; refine wpList_append_own _ rfl (.tmp 18) (.tmp 20) 60 rfl w.heap.size 3 i0 (.int .i64 0) 1 8 Try.underlying60 hi hz0 hz1 hz2 rfl (by decide) _ _ _ rfl (HOWN.out.alloc _) ⟨wr.heap.size, 0, none⟩ 1 1 [.int .i64 r] rfl rfl ?c1 ?c2 ?c3 ?c4 ?c5 ?_))
        case c1 => exact new_cells wr [.int .i64 (r : Int)] 3
        case c2 => exact int_cells .i64 [(r : Int)]
        case c3 => rw [ints_length]; unfold maxLen; omega
        case c4 => rw [ints_length]; omega
        case c5 => simp; omega
        intro v' w1 hown' hgrow _
        have HO' := Lib.hid hown'
        have hB1 : Below w.heap.size w w1 := (hbel.alloc (by omega) _).grown hgrow (by simp; omega) (fun k hk => (HOWN.out.lt k hk).1)
        clear hown' hgrow
        go_wp2
        go_roundw
        case rel =>
          refine ⟨t.extract n t.size, b, done ++ [r], rfl, rfl, by rw [HEXS.out]; omega, ?_, ?_, ?_, hB1⟩
          · have := HO'.out
            rw [ints_append, icells_append, List.length_append]
            exact this
          · rw [List.append_assoc, HEX.out, ← HREM.out, HRC.out]
            rfl
          · rw [← HVAL.out, HVC.out, HBAD.out, HEX.out]
            simp
        case measure => simp only [strSize]; rw [HEXS.out]; omega
    · have hnil : L t = [] := List.eq_nil_of_length_eq_zero (by rw [← size_L]; omega)
      have hdone : done = runes (L s) := by
        have := HREM.out
        rw [hnil, runes_nil, List.append_nil] at this
        exact this
      have hb : b = validL (L s) := by
        have := HVAL.out
        rw [hnil, validL_nil, Bool.and_true] at this
        exact this
      have HD := Lib.hid hdone
      have HB := Lib.hid hb
      clear hnil hdone hb
      go_wp2
      go_ret2
      refine ⟨u4, ?_, ?_, hbel⟩
      · rw [← HB.out]; rfl
      · rw [← HD.out]; exact HOWN.out
theorem refRunes_at (b : Bool) (s : ByteArray) (w : World) (hs : s.size ≤ 2000000) (h : validL (L s) = b) :
    Calls Try.prog 36 #[.string s] w fun e w' => ∃ v, e = .returned (.tuple #[v, .bool b]) ∧ w'.ownsRow w.heap.size 3 1 v (ints (runes (L s))).length (icells (ints (runes (L s)))) ∧ Below w.heap.size w w' := by
  have := refRunes_any s w hs
  rwa [h] at this
set_option maxRecDepth 1000000 in
set_option maxHeartbeats 1600000 in
theorem refName_any (s : ByteArray) (w : World) (hs : s.size ≤ 2000000) :
    Calls Try.prog 32 #[.string s] w fun e w' => e = .returned (.bool (nameL (L s))) ∧ Below w.heap.size w w' := by
  have hrl := runes_length_le (L s)
  rw [← size_L] at hrl
  by_cases hv : validL (L s) = true
  · have HR := Lib.hid (refRunes_at true s w hs hv)
    have HN := Lib.hid (show nameL (L s) = (nameGo 0 (runes (L s)) && decide (0 < (runes (L s)).length)) by unfold nameL; rw [hv, Bool.and_true])
    clear hv
    generalize runes (L s) = rs at *
    have hrb : rs.length ≤ 2000000 := by omega
    clear hrl
    go_enter Try.func32, Try.ntmps32
    go_wp2_with fail
    refine HR.out.mono ?_
    rintro e w1 ⟨lv, rfl, hown1, hb1⟩
    have hsl := SlI_own hown1
    clear hown1
    by_cases hpos : 0 < rs.length
    · obtain ⟨b, off, cap, rfl, hc⟩ := SlI_some hsl (by rw [ints_length]; exact hpos)
      rw [ints_length] at hc
      have HC := Lib.hid hc
      have hlen : (ints rs).length = rs.length := ints_length rs
      rw [hlen]
      clear hsl hc hlen
      by_cases h64 : rs.length ≤ 64
      · have HN2 := Lib.hid (show nameL (L s) = rs.all fun (r : Nat) => nameB (r : Int) by
          rw [HN.out, decide_eq_true hpos, Bool.and_true]
          unfold nameGo
          rw [decide_eq_true (by omega), Bool.true_and])
        have hp1 : (1 : Int) ≤ (rs.length : Int) := by omega
        have hp2 : (rs.length : Int) ≤ 64 := by omega
        go_wp2
        go_loopw [5, 6] (fun i _ wr => ∃ k : Nat, k ≤ rs.length ∧ i = .int .i64 k ∧ ((rs.take k).all fun (r : Nat) => nameB (r : Int)) = true ∧ wr = w1) (fun i _ _ => rs.length - (intOf i).toNat)
        case atStart => exact ⟨0, Nat.zero_le _, rfl, by simp, rfl⟩
        case round =>
          obtain ⟨k, hk, rfl, hall, rfl⟩ := hrel
          have HALL := Lib.hid hall
          clear hall
          by_cases hlt : k < rs.length
          · have hcell := HC.out k hlt
            obtain ⟨r, hrk⟩ : ∃ r, rs.getD k 0 = r := ⟨_, rfl⟩
            have hik : (ints rs).getD k 0 = (r : Int) := by
              rw [← hrk]
              simp [ints, List.getD, hlt]
            rw [hik] at hcell
            have HTK := Lib.hid (take_nextN hlt hrk)
            clear hrk hik
            by_cases hnb : nameB (r : Int) = true
            · obtain ⟨n1, n2, n3, n4, n5, n6, n7⟩ := (nameB_iff _).1 hnb
              have HNB := Lib.hid hnb
              have m2 : ((r : Int) == 127) = false := beq_eq_false_iff_ne.2 n2
              have m3 : ((r : Int) == 59) = false := beq_eq_false_iff_ne.2 n3
              have m4 : ((r : Int) == 91) = false := beq_eq_false_iff_ne.2 n4
              have m5 : ((r : Int) == 40) = false := beq_eq_false_iff_ne.2 n5
              have m6 : ((r : Int) == 41) = false := beq_eq_false_iff_ne.2 n6
              have m7 : ((r : Int) == 46) = false := beq_eq_false_iff_ne.2 n7
              clear n2 n3 n4 n5 n6 n7 hnb
              go_wp2
              go_roundw
              case rel =>
                refine ⟨k + 1, by omega, by go_num, ?_, trivial⟩
                rw [HTK.out, List.all_append, HALL.out]
                simp [HNB.out]
              case measure => simp [intOf]; omega
            · have hno : (rs.all fun (r : Nat) => nameB (r : Int)) = false := by
                have hm : r ∈ rs := by
                  have : r ∈ rs.take (k + 1) := by rw [HTK.out]; simp
                  exact List.mem_of_mem_take this
                rw [List.all_eq_false]
                exact ⟨r, hm, by simpa using hnb⟩
              have HF := Lib.hid (show nameL (L s) = false by rw [HN2.out, hno])
              have hbad : (r : Int) ≤ 32 ∨ (32 < (r : Int) ∧ r = 127) ∨ (32 < (r : Int) ∧ r = 59) ∨ (32 < (r : Int) ∧ r = 91) ∨ (32 < (r : Int) ∧ r = 40) ∨ (32 < (r : Int) ∧ r = 41) ∨ (32 < (r : Int) ∧ r = 46) := by
                have : ¬ (32 < (r : Int) ∧ (r : Int) ≠ 127 ∧ (r : Int) ≠ 59 ∧ (r : Int) ≠ 91 ∧ (r : Int) ≠ 40 ∧ (r : Int) ≠ 41 ∧ (r : Int) ≠ 46) := fun h => hnb ((nameB_iff (r : Int)).2 h)
                omega
              clear hnb hno
              rcases hbad with h | ⟨_, rfl⟩ | ⟨_, rfl⟩ | ⟨_, rfl⟩ | ⟨_, rfl⟩ | ⟨_, rfl⟩ | ⟨_, rfl⟩
              all_goals
                go_wp2
                go_ret
                exact ⟨ret_bool HF.out.symm, hb1⟩
          · have HT := Lib.hid (show nameL (L s) = true by
              have := HALL.out
              rw [List.take_of_length_le (by omega)] at this
              rw [HN2.out, this])
            go_wp2
            go_ret
            exact ⟨ret_bool HT.out.symm, hb1⟩
      · have HF := Lib.hid (show nameL (L s) = false by
          rw [HN.out]
          unfold nameGo
          rw [decide_eq_false (by omega), Bool.false_and, Bool.false_and])
        have hp1 : (1 : Int) ≤ (rs.length : Int) := by omega
        have hp2 : (64 : Int) < (rs.length : Int) := by omega
        go_wp2
        go_ret
        exact ⟨ret_bool HF.out.symm, hb1⟩
    · have hnil : rs = [] := List.eq_nil_of_length_eq_zero (by omega)
      subst hnil
      have HF := Lib.hid (show nameL (L s) = false by rw [HN.out]; simp)
      have hlv : lv = .slice none 0 0 ∨ ∃ a c, lv = .slice (some a) 0 c := by
        rcases hsl with ⟨h, _⟩ | ⟨b, off, cap, h, _⟩
        · exact .inl h
        · exact .inr ⟨_, cap, h⟩
      clear hsl
      rcases hlv with rfl | ⟨a, c, rfl⟩
      all_goals
        go_wp2
        go_ret
        exact ⟨ret_bool HF.out.symm, hb1⟩
  · have hv' : validL (L s) = false := by simpa using hv
    have HR := Lib.hid (refRunes_at false s w hs hv')
    have HF := Lib.hid (show nameL (L s) = false by unfold nameL; rw [hv', Bool.and_false])
    clear hv hv' hrl
    go_enter Try.func32, Try.ntmps32
    go_wp2_with fail
    refine HR.out.mono ?_
    rintro e w1 ⟨lv, rfl, hown1, hb1⟩
    clear hown1
    go_wp2
    go_ret
    exact ⟨ret_bool HF.out.symm, hb1⟩
set_option maxRecDepth 1000000 in
set_option maxHeartbeats 800000 in
theorem Right_any (d : Int) (n : ByteArray) (w : World) (hs : n.size ≤ 2000000) :
    Calls Try.prog 29 #[.agg #[.int .i64 d, .string n]] w fun e w' => e = .returned (.bool (okT d (L n))) ∧ Below w.heap.size w w' := by
  have HBE := Lib.hid ((Below.refl w.heap.size w).alloc (Nat.le_refl _) (.cells #[.int .i64 d, .string n] 23))
  have HN := fun W => Lib.hid (refName_any n W hs)
  obtain ⟨b, hb⟩ : ∃ b, nameL (L n) = b := ⟨_, rfl⟩
  rw [hb] at HN
  obtain ⟨r, hr⟩ : ∃ r, okT d (L n) = r := ⟨_, rfl⟩
  rw [hr]
  by_cases h0 : d < 0
  · rw [okT_neg (.inl h0)] at hr
    clear hb
    subst hr
    go_enter Try.func29, Try.ntmps29
    go_wp2_with fail
    refine (HN _).out.mono ?_
    rintro e w2 ⟨rfl, hb2⟩
    obtain ⟨hc, hf⟩ := bcell hb2
    have hb2 := HBE.out.trans (hb2.mono (by simp))
    go_wp2
    go_ret
    exact ⟨rfl, hb2⟩
  by_cases h4 : 4 < d
  · rw [okT_neg (.inr h4)] at hr
    have h0' : 0 ≤ d := by omega
    clear h0 hb
    subst hr
    go_enter Try.func29, Try.ntmps29
    go_wp2_with fail
    refine (HN _).out.mono ?_
    rintro e w2 ⟨rfl, hb2⟩
    obtain ⟨hc, hf⟩ := bcell hb2
    have hb2 := HBE.out.trans (hb2.mono (by simp))
    go_wp2
    go_ret
    exact ⟨rfl, hb2⟩
  have h0' : 0 ≤ d := by omega
  have h4' : d ≤ 4 := by omega
  clear h0 h4
  by_cases hn : n.size = 0
  · have e1 := nil_of0 hn
    have e2 := emp_of0 hn
    rw [size0_nil hn, okT_nil h0' h4'] at hr
    rw [size0_nil hn, nameL_nil] at hb
    subst hr hb
    clear hn
    go_enter Try.func29, Try.ntmps29
    go_wp2_with fail
    refine (HN _).out.mono ?_
    rintro e w2 ⟨rfl, hb2⟩
    obtain ⟨hc, hf⟩ := bcell hb2
    have hb2 := HBE.out.trans (hb2.mono (by simp))
    go_wp2
    go_ret
    exact ⟨rfl, hb2⟩
  · have hp : 0 < n.size := by omega
    have e1 := ne_ofpos hp
    have e2 := emp_ofpos hp
    rw [okT_name h0' h4' (sizepos_ne hp), hb] at hr
    clear hb hn hp
    subst hr
    cases b
    all_goals
      go_enter Try.func29, Try.ntmps29
      go_wp2_with fail
      refine (HN _).out.mono ?_
      rintro e w2 ⟨rfl, hb2⟩
      obtain ⟨hc, hf⟩ := bcell hb2
      have hb2 := HBE.out.trans (hb2.mono (by simp))
      go_wp2
      go_ret
      exact ⟨rfl, hb2⟩
theorem Right_at (b : Bool) (d : Int) (n : ByteArray) (w : World) (hs : n.size ≤ 2000000) (h : okT d (L n) = b) :
    Calls Try.prog 29 #[.agg #[.int .i64 d, .string n]] w fun e w' => e = .returned (.bool b) ∧ Below w.heap.size w w' := by
  have := Right_any d n w hs
  rwa [h] at this

set_option maxRecDepth 1000000 in
set_option maxHeartbeats 800000 in
theorem refWrite_ok (d : Nat) (n : ByteArray) (w : World) (hs : n.size ≤ 2000000) (h : okT d (L n) = true) :
    Calls Try.prog 13 #[.agg #[.int .i64 (d : Int), .string n]] w fun e w' => e = .returned (.tuple #[.string (mkB (descT (d, L n))), .int .i64 0]) ∧ Below w.heap.size w w' := by
  have hsz := okT_name_le h
  have hd := (okT_dims h).2
  have hd4 : d ≤ 4 := by omega
  have HBE := Lib.hid ((Below.refl w.heap.size w).alloc (Nat.le_refl _) (.cells #[.int .i64 (d : Int), .string n] 23))
  have HV := fun W => Lib.hid (Right_at true d n W hs h)
  clear h hd
  go_enter Try.func13, Try.ntmps13
  go_wp2_with fail
  refine (HV _).out.mono ?_
  rintro e w2 ⟨rfl, hb2⟩
  obtain ⟨hc, hf⟩ := bcell hb2
  have hs2 := hb2.size
  have HB := Lib.hid (HBE.out.trans (hb2.mono (by simp)))
  have c0 : w2.cell? ⟨w.heap.size, 0, none⟩ = some (.int .i64 (d : Int)) := by rw [hc _ _ (by simp)]; go_simp
  have c1 : w2.cell? ⟨w.heap.size, 1, none⟩ = some (.string n) := by rw [hc _ _ (by simp)]; go_simp
  clear hc hf hb2 hs2
  go_wp2
  go_loop [5, 6] (fun s i => ∃ (k : Nat) (S : ByteArray), k ≤ d ∧ i = .int .i64 k ∧ s = .string S ∧ L S = List.replicate k 91) (fun _ i => d - (intOf i).toNat)
  case atStart => exact ⟨0, ⟨#[]⟩, Nat.zero_le _, rfl, rfl, rfl⟩
  case round =>
    obtain ⟨k, S, hk, rfl, rfl, hS⟩ := hrel
    have hSs : S.size ≤ 4 := by rw [size_L, hS, List.length_replicate]; omega
    have HS := Lib.hid hS
    clear hS
    by_cases hlt : k < d
    · go_wp2
      go_round
      case rel => exact ⟨k + 1, _, by omega, by go_num, rfl, by rw [L_append, HS.out, List.replicate_succ']⟩
      case measure => simp [intOf]; omega
    · have hkd : k = d := by omega
      have HK := Lib.hid hkd
      clear hkd
      go_wp2
      · have he : n.toList.isEmpty = true := by assumption
        go_ret2
        refine ⟨?_, HB.out⟩
        have e : S ++ ⟨#[73]⟩ = mkB (descT (d, L n)) := eq_mkB (by
          rw [L_append, HS.out, descT, HK.out]
          simp only
          rw [if_pos (emp_L he)])
        rw [e]
        rfl
      · have he : L n ≠ [] := by first | exact nemp_L (by assumption) | exact nemp_L' (by assumption)
        go_ret2
        refine ⟨?_, HB.out⟩
        have e : S ++ ⟨#[76]⟩ ++ n ++ ⟨#[59]⟩ = mkB (descT (d, L n)) := eq_mkB (by
          rw [L_append, L_append, L_append, HS.out, descT, HK.out]
          simp only
          rw [if_neg he]
          show (List.replicate d 91 ++ [76] ++ L n ++ [59]) = _
          simp)
        rw [e]
        rfl
set_option maxRecDepth 1000000 in
set_option maxHeartbeats 800000 in
theorem refWrite_no (d : Int) (n : ByteArray) (w : World) (hs : n.size ≤ 2000000) (h : okT d (L n) = false) :
    Calls Try.prog 13 #[.agg #[.int .i64 d, .string n]] w fun e w' => e = .returned (.tuple #[.string ⟨#[]⟩, .int .i64 9]) ∧ Below w.heap.size w w' := by
  have HBE := Lib.hid ((Below.refl w.heap.size w).alloc (Nat.le_refl _) (.cells #[.int .i64 d, .string n] 23))
  have HV := fun W => Lib.hid (Right_at false d n W hs h)
  clear h
  go_enter Try.func13, Try.ntmps13
  go_wp2_with fail
  refine (HV _).out.mono ?_
  rintro e w2 ⟨rfl, hb2⟩
  have hb2 := HBE.out.trans (hb2.mono (by simp))
  go_wp2
  go_ret2
  exact ⟨rfl, hb2⟩
theorem refWrite_any (d : Int) (n : ByteArray) (w : World) (hs : n.size ≤ 2000000) :
    Calls Try.prog 13 #[.agg #[.int .i64 d, .string n]] w fun e w' => e = .returned (.tuple #[.string (wrA d (L n)), .int .i64 (wrE d (L n))]) ∧ Below w.heap.size w w' := by
  cases h : okT d (L n) with
  | false =>
    rw [(wr_no h).1, (wr_no h).2]
    exact refWrite_no d n w hs h
  | true =>
    rw [(wr_ok h).1, (wr_ok h).2]
    have hd := okT_dims h
    have e : ((d.toNat : Nat) : Int) = d := by omega
    have := refWrite_ok d.toNat n w hs (by rw [e]; exact h)
    rwa [e] at this
end Go.Proofs.Ytamafgpconfipaa.Big
