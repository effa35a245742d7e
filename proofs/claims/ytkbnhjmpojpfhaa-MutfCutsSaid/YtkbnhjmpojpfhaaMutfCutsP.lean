/-
  PROVED: the bytes of a text that are cut within a rune are no text's on either side, and cut between runes both parts are read and are the text (bytes of more than 5000 are passed by, as the statement says). No condition.
-/
import Derived.Test.YtkbnhjmpojpfhaaRows
import Derived.Test.YtkbnhjmpojpfhaaW13
import Derived.Test.YtkbnhjmpojpfhaaCutP
import Derived.WalkKit
import Derived.ProofKit
import Derived.OpenShut
import Derived.ShutString
import Derived.ChangeOld
import Derived.Below
import Derived.SizedLaws
namespace Go.Proofs.Ytkbnhjmpojpfhaa.mutfCuts
open Go.ChangeShapes Go.WideShapes Go.ChangeAt Go.RowKit
open Go.ChangeMaps (open_string shut_string)
set_option linter.unusedVariables false      -- a walk need not use every 'w<i>' (that an integer argument fits its kind)

theorem own : ownKnob Try.prog.godebug = none := by kernel_rfl

theorem Encode_gen (s : ByteArray) (hl : s.size ≤ 1000000000000000000) : ∃ (x : ByteArray) (z : Int), (∀ W, Calls Try.prog 14 #[.string s] W fun e w' => e = .returned (.tuple #[.string x, .int .i64 z]) ∧ Below W.heap.size W w') ∧ x = ⟨(encA (L s)).toArray⟩ ∧ z = encE (L s) :=
  ⟨_, _, fun W => Encode_any s W hl, rfl, rfl⟩
theorem Decode_gen (s : ByteArray) (x : ByteArray) (z : Int) (W : World) (hx : x = ⟨(decA (L s)).toArray⟩) (hz : z = decE (L s)) : Calls Try.prog 16 #[.string s] W fun e w' => e = .returned (.tuple #[.string x, .int .i64 z]) ∧ Below W.heap.size W w' := by
  rw [hx, hz]
  exact Decode_any s W
theorem strV_size (l : List UInt8) : (⟨l.toArray⟩ : ByteArray).size = l.length := by simp [ByteArray.size]
theorem ext_none (x : ByteArray) : x.extract 0 0 = ByteArray.empty := by
  apply ByteArray.ext
  simp
theorem ext_all (x : ByteArray) : x.extract 0 x.size = x := by
  rw [← Lib.mk_data (x.extract 0 x.size), Lib.extract_to_end, List.drop_zero, Lib.mk_data]
theorem L_take (x : ByteArray) (k : Nat) : L (x.extract 0 k) = (L x).take k := by
  show (x.extract 0 k).data.toList = _
  rw [Lib.extract_data]
  simp
theorem L_drop (x : ByteArray) (k : Nat) : L (x.extract k x.size) = (L x).drop k := Lib.extract_to_end x k
/-- What the two cuts answer. -/
theorem cut_answers (l : List UInt8) (hv : validL l = true) (k : Nat) (hk : k ≤ (encL l).length) (h5 : (encL l).length ≤ 5000) :
    (decE ((encL l).take k) = 0 ∧ decE ((encL l).drop k) = 0 ∧ decA ((encL l).take k) ++ decA ((encL l).drop k) = l ∧ (decA ((encL l).take k)).length ≤ 20000 ∧ (decA ((encL l).drop k)).length ≤ 20000) ∨
    (decE ((encL l).take k) = 4 ∧ decE ((encL l).drop k) = 4 ∧ decA ((encL l).take k) = [] ∧ decA ((encL l).drop k) = []) := by
  have hs := runes_scal l
  have ht : ((encL l).take k).length ≤ 65535 := by rw [List.length_take]; omega
  have hd : ((encL l).drop k).length ≤ 65535 := by rw [List.length_drop]; omega
  have key : ∀ rs : List Nat, (rs.flatMap u8).length ≤ 4 * (rs.flatMap mb).length := by
    intro rs
    induction rs with
    | nil => simp
    | cons r rs ih =>
      have := (u8_length r).2
      have := (mb_length r).1
      simp only [List.flatMap_cons, List.length_append]
      omega
  unfold decE decA
  rw [if_pos ht, if_pos hd, if_pos ht, if_pos hd]
  rcases cut_cases (runes l) hs k hk with ⟨p, q, e1, e2, e3⟩ | ⟨a, b⟩
  · left
    have hp : ∀ r ∈ p, Scal r := fun r hr => hs r (by rw [e1]; simp [hr])
    have hq : ∀ r ∈ q, Scal r := fun r hr => hs r (by rw [e1]; simp [hr])
    have m1 : mruns ((encL l).take k) = some p := by
      have : (encL l).take k = p.flatMap mb := e2
      rw [this]; exact mruns_of p hp
    have m2 : mruns ((encL l).drop k) = some q := by
      have : (encL l).drop k = q.flatMap mb := e3
      rw [this]; exact mruns_of q hq
    have l1 : (p.flatMap mb).length ≤ 5000 := by
      have := congrArg List.length e2
      rw [List.length_take] at this
      have h6 : ((runes l).flatMap mb).length ≤ 5000 := h5
      omega
    have l2 : (q.flatMap mb).length ≤ 5000 := by
      have := congrArg List.length e3
      rw [List.length_drop] at this
      have h6 : ((runes l).flatMap mb).length ≤ 5000 := h5
      omega
    have k1 := key p
    have k2 := key q
    rw [m1, m2]
    refine ⟨rfl, rfl, ?_, by simp only [Option.getD_some]; omega, by simp only [Option.getD_some]; omega⟩
    simp only [Option.getD_some]
    rw [← List.flatMap_append, ← e1]
    exact valid_u8 l hv
  · right
    have a' : mruns ((encL l).take k) = none := a
    have b' : mruns ((encL l).drop k) = none := b
    rw [a', b']
    exact ⟨rfl, rfl, rfl, rfl⟩
set_option maxRecDepth 1000000 in
set_option maxHeartbeats 1600000 in
theorem walk (a0 : ByteArray) (a1 : Int) (hreach : a0.size ≤ 1000000000000000000) (w0 : a0.size ≤ maxLen) (w1 : (Lit.int .i64 a1).wf = true) (w : World) :
    Calls Try.prog 12 #[.string a0, .int .i64 a1] w fun e w' => e = .returned (.bool true) ∧ Below w.heap.size w w' := by
  have hbig : a0.size ≤ 1000000000000000000 := hreach
  obtain ⟨x, z, HA0, hx, hz⟩ := Encode_gen a0 hbig
  have HA := fun W => Lib.hid (HA0 W)
  clear HA0
  have hc1 : -9223372036854775808 ≤ a1 := by have := bounds_i64 w1; omega
  have hc2 : a1 ≤ 9223372036854775807 := by have := bounds_i64 w1; omega
  by_cases hz0 : z = 0
  · subst hz0
    have hv : validL (L a0) = true := by
      cases h : validL (L a0) with
      | true => rfl
      | false => unfold encE at hz; simp [h] at hz
    have hle : (encL (L a0)).length ≤ 65535 := by
      refine Decidable.byContradiction fun h => ?_
      unfold encE at hz
      rw [if_pos hv, if_neg h] at hz
      omega
    have hxe : L x = encL (L a0) := by rw [hx]; unfold encA; rw [if_pos ⟨hv, hle⟩]
    have hxs : x.size = (encL (L a0)).length := by rw [size_L, hxe]
    by_cases hn0 : x.size = 0
    · have hne : ((x.size : Int) == 0) = true := by rw [beq_iff_eq]; omega
      have hne2 : (x.size : Int) = 0 := by omega
      clear hxs hxe hx hz hle hv w0 w1 hbig hreach hn0
      go_enter Try.func12, Try.ntmps12
      go_wp2_with fail
      refine (shown_any _).mono ?_
      rintro e v1 ⟨rfl, hb1⟩
      have hs1 := hb1.size
      go_wp2_with fail
      refine (HA _).out.mono ?_
      rintro e v2 ⟨rfl, hb2⟩
      have hb2 := hb1.trans (hb2.mono hs1)
      have hs2 := hb2.size
      clear hb1 hs1
      go_wp2
      all_goals
        go_ret
        exact ⟨rfl, hb2⟩
    · by_cases h5x : x.size ≤ 5000
      · have h5 : (encL (L a0)).length ≤ 5000 := by omega
        have hnp : 0 < x.size := by omega
        have hne : ((x.size : Int) == 0) = false := by rw [beq_eq_false_iff_ne]; omega
        have hEx : ∃ kk : Nat, kk < x.size ∧ ((0 ≤ a1 ∧ a1 % (x.size : Int) = (kk : Int)) ∨ (a1 < 0 ∧ a1.tmod (x.size : Int) = -(kk : Int))) := by
          by_cases h : 0 ≤ a1
          · have := Int.emod_nonneg a1 (show (x.size : Int) ≠ 0 by omega)
            have := Int.emod_lt_of_pos a1 (show (0 : Int) < (x.size : Int) by omega)
            exact ⟨(a1 % (x.size : Int)).toNat, by omega, .inl ⟨h, by omega⟩⟩
          · have e : -(a1.tmod (x.size : Int)) = (-a1) % (x.size : Int) := by rw [← Int.neg_tmod, Int.tmod_eq_emod_of_nonneg (by omega)]
            have := Int.emod_nonneg (-a1) (show (x.size : Int) ≠ 0 by omega)
            have := Int.emod_lt_of_pos (-a1) (show (0 : Int) < (x.size : Int) by omega)
            exact ⟨((-a1) % (x.size : Int)).toNat, by omega, .inr ⟨by omega, by omega⟩⟩
        obtain ⟨kk, hkk, hcase⟩ := hEx
        have hans := cut_answers (L a0) hv kk (by omega) h5
        rw [← hxe, ← L_take, ← L_drop] at hans
        have hcv : ∃ (p q : ByteArray) (zz : Int), (∀ W, Hid (Calls Try.prog 16 #[.string (x.extract 0 kk)] W fun e w' => e = .returned (.tuple #[.string p, .int .i64 zz]) ∧ Below W.heap.size W w')) ∧
            (∀ W, Hid (Calls Try.prog 16 #[.string (x.extract kk x.size)] W fun e w' => e = .returned (.tuple #[.string q, .int .i64 zz]) ∧ Below W.heap.size W w')) ∧
            ((zz = 0 ∧ p ++ q = a0 ∧ p.size ≤ 20000 ∧ q.size ≤ 20000) ∨ (zz = 4 ∧ p = ⟨#[]⟩ ∧ q = ⟨#[]⟩)) := by
          rcases hans with ⟨c1, c2, c3, c4, c5⟩ | ⟨c1, c2, c3, c4⟩
          · refine ⟨_, _, 0, fun W => Lib.hid (Decode_gen _ _ 0 W rfl c1.symm), fun W => Lib.hid (Decode_gen _ _ 0 W rfl c2.symm), .inl ⟨rfl, ?_, ?_, ?_⟩⟩
            · rw [← Lib.mk_data a0]
              have c3' : decA (L (x.extract 0 kk)) ++ decA (L (x.extract kk x.size)) = a0.data.toList := c3
              rw [← c3']
              simp [ByteArray.mk_append_mk]
            · rw [strV_size]; exact c4
            · rw [strV_size]; exact c5
          · exact ⟨_, _, 4, fun W => Lib.hid (Decode_gen _ _ 4 W rfl c1.symm), fun W => Lib.hid (Decode_gen _ _ 4 W rfl c2.symm), .inr ⟨rfl, by rw [c3], by rw [c4]⟩⟩
        obtain ⟨p, q, zz, HP, HQ, hpq⟩ := hcv
        clear hans hxs hxe hx hz hle hv w0 w1 hbig hreach h5 hn0
        have hsub : (0 ≤ a1 ∧ a1 % (x.size : Int) = (kk : Int)) ∨ (a1 < 0 ∧ kk = 0 ∧ a1.tmod (x.size : Int) = 0) ∨ (a1 < 0 ∧ 0 < kk ∧ a1.tmod (x.size : Int) = -(kk : Int)) := by
          rcases hcase with h | ⟨h1, h2⟩
          · exact .inl h
          · by_cases h0 : kk = 0
            · exact .inr (.inl ⟨h1, h0, by rw [h2, h0]; rfl⟩)
            · exact .inr (.inr ⟨h1, by omega, h2⟩)
        clear hcase
        rcases hsub with ⟨hs0, hmod⟩ | ⟨hs0, rfl, hmod⟩ | ⟨hs0, hkp, hmod⟩
        · go_enter Try.func12, Try.ntmps12
          go_wp2_with fail
          refine (shown_any _).mono ?_
          rintro e v1 ⟨rfl, hb1⟩
          have hs1 := hb1.size
          go_wp2_with fail
          refine (HA _).out.mono ?_
          rintro e v2 ⟨rfl, hb2⟩
          have hb2 := hb1.trans (hb2.mono hs1)
          have hs2 := hb2.size
          clear hb1 hs1
          go_wp2_with fail
          refine (HP _).out.mono ?_
          rintro e v3 ⟨rfl, hb3⟩
          have hb3 := hb2.trans (hb3.mono hs2)
          have hs3 := hb3.size
          clear hb2 hs2
          go_wp2_with fail
          refine (HQ _).out.mono ?_
          rintro e v4 ⟨rfl, hb4⟩
          have hb4 := hb3.trans (hb4.mono hs3)
          clear hb3 hs3
          rcases hpq with ⟨rfl, rfl, hp1, hq1⟩ | ⟨rfl, rfl, rfl⟩
          all_goals
            go_wp2
            all_goals
              go_ret
              exact ⟨rfl, hb4⟩
        · have HP : ∀ W, Hid (Calls Try.prog 16 #[.string ByteArray.empty] W fun e w' => e = .returned (.tuple #[.string p, .int .i64 zz]) ∧ Below W.heap.size W w') := by intro W; have := HP W; rw [ext_none] at this; exact this
          have HQ : ∀ W, Hid (Calls Try.prog 16 #[.string x] W fun e w' => e = .returned (.tuple #[.string q, .int .i64 zz]) ∧ Below W.heap.size W w') := by intro W; have := HQ W; rw [ext_all] at this; exact this
          go_enter Try.func12, Try.ntmps12
          go_wp2_with fail
          refine (shown_any _).mono ?_
          rintro e v1 ⟨rfl, hb1⟩
          have hs1 := hb1.size
          go_wp2_with fail
          refine (HA _).out.mono ?_
          rintro e v2 ⟨rfl, hb2⟩
          have hb2 := hb1.trans (hb2.mono hs1)
          have hs2 := hb2.size
          clear hb1 hs1
          go_wp2_with fail
          refine (HP _).out.mono ?_
          rintro e v3 ⟨rfl, hb3⟩
          have hb3 := hb2.trans (hb3.mono hs2)
          have hs3 := hb3.size
          clear hb2 hs2
          go_wp2_with fail
          refine (HQ _).out.mono ?_
          rintro e v4 ⟨rfl, hb4⟩
          have hb4 := hb3.trans (hb4.mono hs3)
          clear hb3 hs3
          rcases hpq with ⟨rfl, rfl, hp1, hq1⟩ | ⟨rfl, rfl, rfl⟩
          all_goals
            go_wp2
            all_goals
              go_ret
              exact ⟨rfl, hb4⟩
        · go_enter Try.func12, Try.ntmps12
          go_wp2_with fail
          refine (shown_any _).mono ?_
          rintro e v1 ⟨rfl, hb1⟩
          have hs1 := hb1.size
          go_wp2_with fail
          refine (HA _).out.mono ?_
          rintro e v2 ⟨rfl, hb2⟩
          have hb2 := hb1.trans (hb2.mono hs1)
          have hs2 := hb2.size
          clear hb1 hs1
          go_wp2_with fail
          refine (HP _).out.mono ?_
          rintro e v3 ⟨rfl, hb3⟩
          have hb3 := hb2.trans (hb3.mono hs2)
          have hs3 := hb3.size
          clear hb2 hs2
          go_wp2_with fail
          refine (HQ _).out.mono ?_
          rintro e v4 ⟨rfl, hb4⟩
          have hb4 := hb3.trans (hb4.mono hs3)
          clear hb3 hs3
          rcases hpq with ⟨rfl, rfl, hp1, hq1⟩ | ⟨rfl, rfl, rfl⟩
          all_goals
            go_wp2
            all_goals
              go_ret
              exact ⟨rfl, hb4⟩
      · have hne : ((x.size : Int) == 0) = false := by rw [beq_eq_false_iff_ne]; omega
        have h5x' : (5000 : Int) < (x.size : Int) := by omega
        clear hxs hxe hx hz hle hv w0 w1 hbig hreach hn0 h5x
        go_enter Try.func12, Try.ntmps12
        go_wp2_with fail
        refine (shown_any _).mono ?_
        rintro e v1 ⟨rfl, hb1⟩
        have hs1 := hb1.size
        go_wp2_with fail
        refine (HA _).out.mono ?_
        rintro e v2 ⟨rfl, hb2⟩
        have hb2 := hb1.trans (hb2.mono hs1)
        have hs2 := hb2.size
        clear hb1 hs1
        go_wp2
        all_goals
          go_ret
          exact ⟨rfl, hb2⟩
  · have hzn : (z == 0) = false := beq_eq_false_iff_ne.2 hz0
    have hzn2 : (z != 0) = true := bne_iff_ne.2 hz0
    clear hx hz w0 w1 hbig hreach hz0
    go_enter Try.func12, Try.ntmps12
    go_wp2_with fail
    refine (shown_any _).mono ?_
    rintro e v1 ⟨rfl, hb1⟩
    have hs1 := hb1.size
    go_wp2_with fail
    refine (HA _).out.mono ?_
    rintro e v2 ⟨rfl, hb2⟩
    have hb2 := hb1.trans (hb2.mono hs1)
    have hs2 := hb2.size
    clear hb1 hs1
    go_wp2
    all_goals
      go_ret
      exact ⟨rfl, hb2⟩

set_option maxRecDepth 100000 in
theorem lifted (os : Os) (started : os.Started) (H : Type) (enc : TypeId × Value → H) :
    ReturnsInHanded {} Try.checked os 12 .any (Rows.mutfCutsSpec.pre6 enc Try.prog Try.f12 Rows.mutfCutsRow.domain false) (Rows.mutfCutsSpec.post enc Try.prog Try.f12 false true false false) := by
  refine returnsInHanded_of_change_sized (C := Try.checked) own started (by kernel_rfl) Try.func12
    (ChangeSpec.witness6 (enc := enc) (C := Try.checked) false ⟨#[], #[.string ByteArray.empty, .int .i64 0], []⟩ 8 (by kernel_rfl) (by kernel_rfl) (by kernel_rfl) (by kernel_rfl)) ?_
  intro W base args ds gs before hval0 hW hcnd hsz0 _
  have hsz : (DataW.weightsEach Try.prog (Try.f12.params.toList ++ Rows.mutfCutsSpec.plain.varTypes Try.prog) (ds ++ gs)).all (· ≤ reachBytes) = true := hsz0
  clear hsz0
  have hval : ∀ (j : Nat) t v, Try.f12.params[j]? = some t → args[j]? = some v → Value.okWide Try.prog W .any base t v := hval0
  have hW' := hW
  obtain ⟨p, q, hA0, hV, rfl, hfz, hnd⟩ := hW
  have hA : DataW.TrodAll enc Try.prog W 0 (fun _ => true) true Try.f12.params.toList args.toList ds p := hA0
  rw [Try.params12] at hA hval hsz
  obtain ⟨v0, vs0, d0, ds0, p0, q0, hargs, rfl, rfl, h0, r0⟩ := trodAll_cons hA
  obtain ⟨v1, vs1, d1, ds1, p1, q1, rfl, rfl, rfl, h1, r1⟩ := trodAll_cons r0
  obtain ⟨rfl, rfl, rfl⟩ := trodAll_nil r1
  obtain rfl : args = #[v0, v1] := by cases args; simp_all
  obtain ⟨rfl, rfl⟩ := trodVars_none hV
  obtain ⟨a0, rfl, rfl, rfl, w0⟩ := open_string Try.underlying9 (hval 0 9 v0 rfl rfl) h0
  obtain ⟨a1, rfl, rfl, rfl, w1⟩ := open_int Try.underlying3 (hval 1 3 v1 rfl rfl) h1
  clear hA0 hval0
  simp only [List.append_nil] at hW'
  have hrl := sized_string hsz (j := 0) (t := 9) rfl rfl
  have hreach : a0.size ≤ 1000000000000000000 := by
    rw [size_L]
    have e : reachBytes = 140737488351232 := rfl
    rw [e] at hrl
    exact Nat.le_trans hrl (by omega)
  refine (walk a0 a1 hreach w0 w1 W).mono fun e W' ⟨he, bel⟩ => ?_
  subst he
  exact ⟨_, rfl, _, _, _, [], [], [], hW', trodAll_mk1 (shut_bool Try.underlying4 _), (trodAll_cons_mk (shut_string Try.underlying9 w0) (trodAll_cons_mk (shut_int Try.underlying3 w1) trodAll_mk0)), rfl, bel.frame _, fun h => by cases h⟩

theorem over : Rows.mutfCutsRow.holds Try.pinned (OpenSpec.ofChange Rows.mutfCutsSpec) :=
  OpenClaim.holds_of_wide 12 Try.f12 rfl rfl rfl rfl rfl rfl rfl ⟨rfl, rfl, rfl, rfl, rfl⟩ rfl rfl rfl rfl rfl (by kernel_rfl) Try.func12 (by kernel_rfl)
    (of_decide_eq_true (by kernel_rfl)) (by unfold Func.isWrapper; first | (rw [if_pos (by decide +kernel)]; kernel_rfl) | (rw [if_neg (by decide +kernel)]; exact ⟨rfl, rfl⟩))
    (fun os started H enc _ => lifted os started H enc)

theorem proved : Rows.MutfCutsSaid :=
  over
end Go.Proofs.Ytkbnhjmpojpfhaa.mutfCuts
