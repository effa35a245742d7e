/-
  THE LAW FlowEdges.
-/
import Derived.Test.YtbeelcklbdnjnaaF16
import Derived.Test.YtbeelcklbdnjnaaF13
import Derived.Deep.DeepCutAuto
set_option linter.unusedVariables false
set_option linter.unusedSimpArgs false
namespace Go.Proofs.Ytbeelcklbdnjnaa
open Go.RowKit

theorem ints_eq (B : Nat) (a : List Int) (va vb : Value) (w : World) (ha : IRow B w va a) (hb : IRow w.heap.size w vb a) (hB : B ≤ w.heap.size) :
    Calls Try.prog 15 #[va, vb] w fun e w' => e = .returned (.bool true) ∧ Below w.heap.size w w' ∧ w'.heap.size = w.heap.size := by
  refine (sameInts_any w.heap.size a a va vb w (Row.more ha hB) hb (Nat.le_refl _)).mono ?_
  rintro e w' ⟨h, hd⟩
  exact ⟨by rw [h]; simp, hd.below, hd.size⟩
theorem back_row {w : World} {base : Nat} {v : Value} {l : List In} (h : w.ownsRow base 4 1 v l.length (bcells (backL l))) : BRow w.heap.size w v (backL l) := by
  have := Row.of_own h
  unfold BRow
  rw [show (backL l).length = l.length by simp [backL]]
  exact this
set_option maxRecDepth 1000000 in
set_option maxHeartbeats 6400000 in
theorem edges_walk (s : ByteArray) (hs : List Hd) (hv : Value) (w : World) (hh : HRow w.heap.size w hv hs) (hok : Hok hs) :
    Calls Try.prog 3 #[.string s, hv] w fun e w' => e = .returned (.bool true) ∧ Below w.heap.size w w' := by
  obtain ⟨A2, c2, rfl, hc2, hml2⟩ := hh.form
  have HH := Lib.hid hh
  have HW := Lib.hid hok
  unfold maxLen at hml2
  clear hh hok
  have HDR := fun W => Lib.hid (refDecode_any s W)
  have HORD := Lib.hid (@ord_of (L s))
  have HSZ := Lib.hid (size_L s)
  obtain ⟨f, hf⟩ : ∃ f, decE (L s) = f := ⟨_, rfl⟩
  obtain ⟨l, hl⟩ : ∃ l, decL (L s) = l := ⟨_, rfl⟩
  rw [hf, hl] at HDR
  rw [hf, hl, ← HSZ.out] at HORD
  clear hf hl HSZ
  go_enter Try.func3, Try.ntmps3
  go_wp2_with fail
  refine (shown_any _).mono ?_
  rintro e w1 ⟨rfl, hb⟩
  have B1 := Lib.hid hb
  clear hb
  go_wp2_with fail
  refine (HDR _).out.mono ?_
  rintro e w2 ⟨v, rfl, ho, hb⟩
  have hz2 := hb.size
  have B2 := Lib.hid (Below.link B1.out hb)
  have R2 := Lib.hid ho.row
  have H2 := Lib.hid ((HH.out.below B2.out (Nat.le_refl _)).more B2.out.size)
  have hzw := B2.out.size
  obtain ⟨A, c, rfl⟩ := ho.form
  clear ho hb HDR
  by_cases h0 : f = 0
  · subst h0
    obtain ⟨ho1, ho2, ho3⟩ := HORD.out rfl
    have HO := Lib.hid ho1
    have hl0 : 0 < l.length := List.length_pos_iff.2 ho1.ne
    clear HORD ho1
    by_cases h6 : l.length ≤ 600
    · by_cases h4 : hs.length ≤ 40
      · obtain ⟨B, hBdef⟩ : ∃ B, B = w2.heap.size := ⟨_, rfl⟩
        have hB2 : B ≤ w2.heap.size := by omega
        rw [← hBdef] at R2 H2
        clear hBdef
        obtain ⟨cf, hcf⟩ : ∃ x, covE l s.size hs = x := ⟨_, rfl⟩
        have HCF := Lib.hid hcf
        clear hcf
        have HC := Lib.hid (succ_any B s.size l _ w2 R2.out hB2 HO.out (by omega) (by omega))
        go_wp2_with fail
        refine HC.out.mono ?_
        rintro e w3 ⟨u1, rfl, ho1, hb3⟩
        have hz3 := hb3.size
        have B3 := Lib.hid (Below.link B2.out hb3)
        have R3 := Lib.hid (R2.out.below hb3 hB2)
        have H3 := Lib.hid (H2.out.below hb3 hB2)
        have hB3 : B ≤ w3.heap.size := by omega
        have X1 := Lib.hid ho1.row
        obtain ⟨a1, c1, rfl⟩ := ho1.form
        clear ho1 hb3 HC
        have HC := Lib.hid (refSucc_any B s.size l _ w3 R3.out hB3 HO.out (by omega))
        go_wp2_with fail
        refine HC.out.mono ?_
        rintro e w4 ⟨u2, rfl, ho2, hb4⟩
        have hz4 := hb4.size
        have B4 := Lib.hid (Below.link B3.out hb4)
        have R4 := Lib.hid (R3.out.below hb4 hB3)
        have H4 := Lib.hid (H3.out.below hb4 hB3)
        have hB4 : B ≤ w4.heap.size := by omega
        have X2 := Lib.hid ho2.row
        have X3 := Lib.hid (X1.out.below hb4 (Nat.le_refl _) : LRow _ _ _ _)
        obtain ⟨a2, c2', rfl⟩ := ho2.form
        clear ho2 hb4 HC X1
        have HC := Lib.hid (lists_eq w3.heap.size _ _ _ w4 X3.out X2.out hz4)
        go_wp2_with fail
        refine HC.out.mono ?_
        rintro e w5 ⟨rfl, hb5, hq5⟩
        clear hq5
        have hz5 := hb5.size
        have B5 := Lib.hid (Below.link B4.out hb5)
        have R5 := Lib.hid (R4.out.below hb5 hB4)
        have H5 := Lib.hid (H4.out.below hb5 hB4)
        have hB5 : B ≤ w5.heap.size := by omega
        clear hb5 HC X2 X3
        have HC := Lib.hid (cover_any B s.size l hs _ _ w5 R5.out H5.out hB5 HO.out (by omega) (by omega) (by omega) HW.out)
        rw [HCF.out] at HC
        go_wp2_with fail
        refine HC.out.mono ?_
        rintro e w6 ⟨u1, rfl, ho1, hb6⟩
        have hz6 := hb6.size
        have B6 := Lib.hid (Below.link B5.out hb6)
        have R6 := Lib.hid (R5.out.below hb6 hB5)
        have H6 := Lib.hid (H5.out.below hb6 hB5)
        have hB6 : B ≤ w6.heap.size := by omega
        have X1 := Lib.hid ho1.row
        obtain ⟨a1, c1, rfl⟩ := ho1.form
        clear ho1 hb6 HC
        have HC := Lib.hid (refCover_any B s.size l hs _ _ w6 R6.out H6.out hB6 (by omega) (by omega))
        rw [HCF.out] at HC
        go_wp2_with fail
        refine HC.out.mono ?_
        rintro e w7 ⟨u2, rfl, ho2, hb7⟩
        have hz7 := hb7.size
        have B7 := Lib.hid (Below.link B6.out hb7)
        have R7 := Lib.hid (R6.out.below hb7 hB6)
        have H7 := Lib.hid (H6.out.below hb7 hB6)
        have hB7 : B ≤ w7.heap.size := by omega
        have X2 := Lib.hid ho2.row
        have X3 := Lib.hid (X1.out.below hb7 (Nat.le_refl _) : LRow _ _ _ _)
        obtain ⟨a2, c2', rfl⟩ := ho2.form
        clear ho2 hb7 HC X1
        have HC := Lib.hid (lists_eq w6.heap.size _ _ _ w7 X3.out X2.out hz7)
        go_wp2_with fail
        refine HC.out.mono ?_
        rintro e w8 ⟨rfl, hb8, hq8⟩
        clear hq8
        have hz8 := hb8.size
        have B8 := Lib.hid (Below.link B7.out hb8)
        have R8 := Lib.hid (R7.out.below hb8 hB7)
        have H8 := Lib.hid (H7.out.below hb8 hB7)
        have hB8 : B ≤ w8.heap.size := by omega
        clear hb8 HC X2 X3
        have HC := Lib.hid (starts_any B s.size l hs _ _ w8 R8.out H8.out hB8 HO.out (by omega) (by omega) HW.out)
        go_wp2_with fail
        refine HC.out.mono ?_
        rintro e w9 ⟨u1, rfl, ho1, hb9⟩
        have hz9 := hb9.size
        have B9 := Lib.hid (Below.link B8.out hb9)
        have R9 := Lib.hid (R8.out.below hb9 hB8)
        have H9 := Lib.hid (H8.out.below hb9 hB8)
        have hB9 : B ≤ w9.heap.size := by omega
        have X1 := Lib.hid (Row.of_own ho1 : IRow _ _ _ _)
        obtain ⟨a1, c1, rfl⟩ := ho1.form
        clear ho1 hb9 HC
        have HC := Lib.hid (refStarts_any B l hs _ _ w9 R9.out H9.out hB9 (by omega))
        go_wp2_with fail
        refine HC.out.mono ?_
        rintro e w10 ⟨u2, rfl, ho2, hb10⟩
        have hz10 := hb10.size
        have B10 := Lib.hid (Below.link B9.out hb10)
        have R10 := Lib.hid (R9.out.below hb10 hB9)
        have H10 := Lib.hid (H9.out.below hb10 hB9)
        have hB10 : B ≤ w10.heap.size := by omega
        have X2 := Lib.hid (Row.of_own ho2 : IRow _ _ _ _)
        have X3 := Lib.hid (IRow.below X1.out hb10 (Nat.le_refl _) : IRow _ _ _ _)
        obtain ⟨a2, c2', rfl⟩ := ho2.form
        clear ho2 hb10 HC X1
        have HC := Lib.hid (ints_eq w9.heap.size _ _ _ w10 X3.out X2.out hz10)
        go_wp2_with fail
        refine HC.out.mono ?_
        rintro e w11 ⟨rfl, hb11, hq11⟩
        clear hq11
        have hz11 := hb11.size
        have B11 := Lib.hid (Below.link B10.out hb11)
        have R11 := Lib.hid (R10.out.below hb11 hB10)
        have H11 := Lib.hid (H10.out.below hb11 hB10)
        have hB11 : B ≤ w11.heap.size := by omega
        clear hb11 HC X2 X3
        have HC := Lib.hid (reach_any B s.size l hs _ _ w11 R11.out H11.out hB11 HO.out (by omega) (by omega) (by omega) HW.out)
        rw [HCF.out] at HC
        go_wp2_with fail
        refine HC.out.mono ?_
        rintro e w12 ⟨u1, rb1, rfl, ho1, hre1, hb12⟩
        have hz12 := hb12.size
        have B12 := Lib.hid (Below.link B11.out hb12)
        have R12 := Lib.hid (R11.out.below hb12 hB11)
        have H12 := Lib.hid (H11.out.below hb12 hB11)
        have hB12 : B ≤ w12.heap.size := by omega
        have X1 := Lib.hid (show BRow _ _ _ rb1 from Row.of_own ho1)
        have RE1 := Lib.hid hre1
        obtain ⟨a1, c1, rfl⟩ := own_form ho1
        clear ho1 hb12 HC hre1
        have HC := Lib.hid (refReach_any B s.size l hs _ _ w12 R12.out H12.out hB12 HO.out (by omega) (by omega) (by omega))
        rw [HCF.out] at HC
        go_wp2_with fail
        refine HC.out.mono ?_
        rintro e w13 ⟨u2, rb2, rfl, ho2, hre2, hb13⟩
        have hz13 := hb13.size
        have B13 := Lib.hid (Below.link B12.out hb13)
        have R13 := Lib.hid (R12.out.below hb13 hB12)
        have H13 := Lib.hid (H12.out.below hb13 hB12)
        have hB13 : B ≤ w13.heap.size := by omega
        have X2 := Lib.hid (show BRow _ _ _ rb2 from Row.of_own ho2)
        have X3 := Lib.hid (X1.out.below hb13 (Nat.le_refl _) : BRow _ _ _ _)
        have RE2 := Lib.hid hre2
        obtain ⟨a2, c2', rfl⟩ := own_form ho2
        clear ho2 hb13 HC hre2 X1
        have heq : rb1 = rb2 := by
          by_cases hz : covE l s.size hs = 0
          · exact (RE1.out.1 hz).uniq (RE2.out.1 hz)
          · rw [RE1.out.2 hz, RE2.out.2 hz]
        subst heq
        clear RE1 RE2
        have HC := Lib.hid (bools_eq w12.heap.size _ _ _ w13 X3.out X2.out hz13)
        go_wp2_with fail
        refine HC.out.mono ?_
        rintro e w14 ⟨rfl, hb14, hq14⟩
        clear hq14
        have hz14 := hb14.size
        have B14 := Lib.hid (Below.link B13.out hb14)
        have R14 := Lib.hid (R13.out.below hb14 hB13)
        have H14 := Lib.hid (H13.out.below hb14 hB13)
        have hB14 : B ≤ w14.heap.size := by omega
        clear hb14 HC X2 X3
        have HC := Lib.hid (back_any B l _ w14 R14.out hB14 (by omega))
        go_wp2_with fail
        refine HC.out.mono ?_
        rintro e w15 ⟨u1, rfl, ho1, hb15⟩
        have hz15 := hb15.size
        have B15 := Lib.hid (Below.link B14.out hb15)
        have R15 := Lib.hid (R14.out.below hb15 hB14)
        have H15 := Lib.hid (H14.out.below hb15 hB14)
        have hB15 : B ≤ w15.heap.size := by omega
        have X1 := Lib.hid (back_row ho1)
        obtain ⟨a1, c1, rfl⟩ := own_form ho1
        clear ho1 hb15 HC
        have HC := Lib.hid (refBack_any B l _ w15 R15.out hB15 (by omega))
        go_wp2_with fail
        refine HC.out.mono ?_
        rintro e w16 ⟨u2, rfl, ho2, hb16⟩
        have hz16 := hb16.size
        have B16 := Lib.hid (Below.link B15.out hb16)
        have R16 := Lib.hid (R15.out.below hb16 hB15)
        have H16 := Lib.hid (H15.out.below hb16 hB15)
        have hB16 : B ≤ w16.heap.size := by omega
        have X2 := Lib.hid (back_row ho2)
        have X3 := Lib.hid (X1.out.below hb16 (Nat.le_refl _) : BRow _ _ _ _)
        obtain ⟨a2, c2', rfl⟩ := own_form ho2
        clear ho2 hb16 HC X1
        have HC := Lib.hid (bools_eq w15.heap.size _ _ _ w16 X3.out X2.out hz16)
        go_wp2_with fail
        refine HC.out.mono ?_
        rintro e w17 ⟨rfl, hb17, hq17⟩
        clear hq17
        have hz17 := hb17.size
        have B17 := Lib.hid (Below.link B16.out hb17)
        have R17 := Lib.hid (R16.out.below hb17 hB16)
        have H17 := Lib.hid (H16.out.below hb17 hB16)
        have hB17 : B ≤ w17.heap.size := by omega
        clear hb17 HC X2 X3
        have ecf : (cf == cf) = true := by simp
        go_wp2
        go_ret
        exact ⟨rfl, B17.out⟩
      · have h7 : 40 < hs.length := by omega
        clear h4
        go_wp2
        go_ret
        exact ⟨rfl, B2.out⟩
    · have h7 : 600 < l.length := by omega
      clear h6
      go_wp2
      go_ret
      exact ⟨rfl, B2.out⟩
  · have e1 : (f != 0) = true := by simpa using h0
    clear h0 HORD
    go_wp2
    go_ret
    exact ⟨rfl, B2.out⟩
end Go.Proofs.Ytbeelcklbdnjnaa
