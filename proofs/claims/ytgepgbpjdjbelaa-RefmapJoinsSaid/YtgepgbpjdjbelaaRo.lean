/-
  WALK of RefmapBack.
-/
import Derived.Test.YtgepgbpjdjbelaaRn
set_option linter.unusedVariables false
set_option linter.unusedSimpArgs false
namespace Go.Proofs.Ytgepgbpjdjbelaa
open Go.RowKit

theorem L_mk (l : List UInt8) : L ⟨l.toArray⟩ = l := by simp [L]
theorem L_app (a : ByteArray) (c : UInt8) : L (a ++ ⟨#[c]⟩) = L a ++ [c] := by
  simp [L, ByteArray.data_append]
theorem L_pre (s : ByteArray) (k : Nat) : L (s.extract 0 k) = (L s).take k := by
  rw [L_extract]
  simp
set_option maxRecDepth 1000000 in
set_option maxHeartbeats 6400000 in
theorem back_any (rows : List (List Bool)) (locs : List Int) (s : ByteArray) (cut : Int) (vr vl : Value) (B : Nat) (w : World) (hr : BBRow B w vr rows) (hl : IRow B w vl locs) (hz : ∀ c ∈ locs, -9223372036854775808 ≤ c ∧ c ≤ 9223372036854775807) (hc : -9223372036854775808 ≤ cut ∧ cut ≤ 9223372036854775807) (hB : B ≤ w.heap.size) :
    Calls Try.prog 4 #[vr, vl, .string s, .int .i64 cut] w fun e w' => e = .returned (.bool true) ∧ Below w.heap.size w w' := by
  obtain ⟨A, c, rfl, _, _⟩ := hr.form
  obtain ⟨A2, c2, rfl, _, _⟩ := hl.form
  have HR := Lib.hid hr
  have HL := Lib.hid hl
  have HZ := Lib.hid hz
  have HC := Lib.hid hc
  clear hr hl hz hc
  go_enter Try.func4, Try.ntmps4
  go_wp2_with fail
  refine (shown_any _).mono ?_
  rintro e w1 ⟨rfl, b1⟩
  have HR1 := Lib.hid (HR.out.below b1 hB)
  have HL1 := Lib.hid (HL.out.below b1 hB)
  have B1 := Lib.hid b1
  have hz1 := b1.size
  clear b1 HR HL
  go_wp2_with fail
  refine (maps_any rows locs _ _ B w1 HR1.out HL1.out HZ.out (by omega)).mono ?_
  rintro e w2 ⟨va, vb, rfl, ha, hb, b2⟩
  obtain ⟨l, hlm⟩ : ∃ l, mkM rows locs (min rows.length 5000) = l := ⟨_, rfl⟩
  rw [hlm] at ha hb
  have HA := Lib.hid ha
  have HB := Lib.hid hb
  have B2 := Lib.hid (Below.link' B1.out b2)
  obtain ⟨Aa, ca, rfl, _, _⟩ := ha.form
  obtain ⟨Ab, cb, rfl, _, _⟩ := hb.form
  clear ha hb b2 B1 HR1 HL1 hlm
  go_wp2_with fail
  refine (Pack_any l _ _ w2 HA.out (Nat.le_refl _)).mono ?_
  rintro e w3 ⟨rfl, b3⟩
  have HX := Lib.hid (L_mk (pkS l))
  obtain ⟨X, hX⟩ : ∃ X : ByteArray, ⟨(pkS l).toArray⟩ = X := ⟨_, rfl⟩
  rw [hX] at HX ⊢
  have HB3 := Lib.hid ((HB.out.below b3 (Nat.le_refl _)).more b3.size)
  have B3 := Lib.hid (Below.link' B2.out b3)
  obtain ⟨k, hk⟩ : ∃ k, pkE l = k := ⟨_, rfl⟩
  rw [hk]
  have HK := Lib.hid hk
  clear b3 B2 HA HB hX hk
  go_upto_if 40 with fail
  go_cut [] (fun wx => Below w.heap.size w wx)
  case first => as_aux_lemma =>
    by_cases hk0 : k = 0
    · have HK0 := Lib.hid (show pkE l = 0 by rw [HK.out, hk0])
      have hlen := pkS_pos HK0.out
      rw [← HX.out, ← size_L] at hlen
      have HU1 := fun W => Lib.hid (Unpack_any X W)
      rw [HX.out, unp_pk HK0.out] at HU1
      obtain ⟨n, hn⟩ : ∃ n, X.size = n := ⟨_, rfl⟩
      have HN := Lib.hid hn
      have hcut : pickN cut n < n := pickN_lt cut (by omega)
      obtain ⟨p, hp⟩ : ∃ p, pickN cut n = p := ⟨_, rfl⟩
      have hnl : n ≤ 100000 := by
        have h1 : X.size = (pkS l).length := by rw [size_L, HX.out]
        obtain ⟨h2, h3⟩ := pkE_ok.1 HK0.out
        have h4 := packL_len h3
        have h5 : pkS l = hd2 l.length ++ packL l := by unfold pkS; rw [if_pos HK0.out]
        rw [h5, List.length_append] at h1
        have h6 : (hd2 l.length).length = 2 := rfl
        omega
      have HP := fun W => Lib.hid (pick_any cut n W HC.out (by omega) (by omega))
      rw [hp] at HP hcut
      have HU2 := fun W => Lib.hid (Unpack_any (X.extract 0 p) W)
      rw [L_pre, HX.out, unp_cut HK0.out (by rw [← HX.out, ← size_L, hn]; exact hcut)] at HU2
      have HU3 := fun W => Lib.hid (Unpack_any (X ++ ⟨#[121]⟩) W)
      rw [L_app, HX.out, unp_rest HK0.out] at HU3
      subst hk0
      have hnI : (n : Int) ≤ 100000 := by omega
      have hpI : (p : Int) ≤ (n : Int) := by omega
      clear hp
      go_wp2_with fail
      refine (HU1 _).out.mono ?_
      rintro e w4 ⟨b4, v4, rfl, hv4⟩
      obtain ⟨A4, c4, rfl, _, _⟩ := hv4.form
      have HV4 := Lib.hid hv4
      have HB4 := Lib.hid ((HB3.out.below b4 (Nat.le_refl _)).more b4.size)
      have B4 := Lib.hid (Below.link' B3.out b4)
      clear b4 hv4 HU1
      go_wp2_with fail
      refine (same_any _ l l _ _ w4 HV4.out HB4.out (Nat.le_refl _)).mono ?_
      rintro e w5 ⟨rfl, hd5⟩
      have B5 := Lib.hid (Below.link' B4.out hd5.below)
      rw [show decide (l = l) = true from decide_eq_true rfl]
      clear hd5 HV4 HB4 B4
      go_wp2_with fail
      refine (HP _).out.mono ?_
      rintro e w6 ⟨rfl, hw6⟩
      rw [hw6]
      clear hw6 w6 HP
      go_wp2_with fail
      refine (HU2 _).out.mono ?_
      rintro e w7 ⟨b7, v7, rfl, _⟩
      have B7 := Lib.hid (Below.link' B5.out b7)
      clear b7 HU2 B5
      go_wp2_with fail
      refine (HU3 _).out.mono ?_
      rintro e w8 ⟨b8, v8, rfl, _⟩
      have B8 := Lib.hid (Below.link' B7.out b8)
      clear b8 HU3 B7
      go_wp2
      go_meet
      case rel => exact B8.out
    · have hkI : ((k : Int) == 0) = false := by rw [beq_eq_false_iff_ne]; omega
      have hkI2 : ¬ (k : Int) = 0 := by omega
      clear hk0
      go_wp2
      go_meet
      case rel => exact B3.out
  have BW := Lib.hid hcut
  clear hcut B3 HB3 HX HK
  by_cases hs : 100000 < s.size
  · have hsI : (100000 : Int) < (s.size : Int) := by omega
    clear hs
    go_wp2
    go_ret
    exact ⟨rfl, BW.out⟩
  · have hsI : ¬ (100000 : Int) < (s.size : Int) := by omega
    clear hs
    obtain ⟨l2, f2, hu⟩ : ∃ l2 f2, unp (L s) = (l2, f2) := ⟨_, _, rfl⟩
    have HU := fun W => Lib.hid (Unpack_any s W)
    rw [hu] at HU
    have HUU := Lib.hid hu
    clear hu
    go_wp2_with fail
    refine (HU _).out.mono ?_
    rintro e w9 ⟨b9, v9, rfl, hv9⟩
    obtain ⟨A9, c9, rfl, hle, hlm9⟩ := hv9.form
    have HV9 := Lib.hid hv9
    have B9 := Lib.hid (Below.link' BW.out b9)
    clear b9 hv9 HU
    by_cases hf : f2 = 0
    · subst hf
      obtain ⟨h1, h2⟩ := unp_yes HUU.out
      have HS2 := Lib.hid h2
      have HE2 := Lib.hid h1
      clear h1 h2
      go_wp2_with fail
      refine (Pack_any l2 _ _ w9 HV9.out (Nat.le_refl _)).mono ?_
      rintro e w10 ⟨rfl, b10⟩
      rw [HE2.out, HS2.out]
      have B10 := Lib.hid (Below.link' B9.out b10)
      have hts : s.toList = L s := toList_data s
      clear b10
      go_wp2
      go_ret
      exact ⟨rfl, B10.out⟩
    · have hl2 : l2 = [] := by
        have := unp_no (s := L s) (by rw [HUU.out]; exact hf)
        rw [HUU.out] at this
        exact this
      subst hl2
      have hfI : ((f2 : Int) != 0) = true := by rw [bne_iff_ne]; omega
      have hfI2 : ¬ (f2 : Int) = 0 := by omega
      clear hf
      go_wp2
      go_ret
      exact ⟨rfl, B9.out⟩
end Go.Proofs.Ytgepgbpjdjbelaa
