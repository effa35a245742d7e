/-
  THE LAW FlowCovers.
-/
import Derived.Test.YtbeelcklbdnjnaaF12
import Derived.Deep.DeepCutAuto
set_option linter.unusedVariables false
set_option linter.unusedSimpArgs false
namespace Go.Proofs.Ytbeelcklbdnjnaa
open Go.RowKit

theorem covN_lt {hs : List Hd} {pc : Int} : ∀ (k : Nat) (j : Int), j ∈ covN hs pc k → j < (k : Int)
  | 0, j, h => by simp [covN] at h
  | k + 1, j, h => by
    rw [covN, List.mem_append] at h
    rcases h with h | h
    · have := covN_lt k j h; omega
    · split at h
      · simp at h; omega
      · simp at h
theorem covN_sorted (hs : List Hd) (pc : Int) : ∀ k, (covN hs pc k).Pairwise (· < ·)
  | 0 => by simp [covN]
  | k + 1 => by
    rw [covN, List.pairwise_append]
    refine ⟨covN_sorted hs pc k, ?_, fun a ha b hb => ?_⟩
    · split <;> simp
    · have := covN_lt k a ha
      split at hb
      · simp at hb; omega
      · simp at hb
theorem covN_count (hs : List Hd) (pc : Int) (m : Nat) : ∀ k, (covN hs pc k).count (m : Int) = if m < k ∧ (hs.getD m default).frm ≤ pc ∧ pc < (hs.getD m default).to then 1 else 0
  | 0 => by simp [covN]
  | k + 1 => by
    rw [covN, List.count_append, covN_count hs pc m k]
    by_cases hk : m = k
    · subst hk
      rw [if_neg (by omega)]
      by_cases hc : (hs.getD m default).frm ≤ pc ∧ pc < (hs.getD m default).to
      · rw [if_pos hc, if_pos ⟨by omega, hc⟩]; simp
      · rw [if_neg hc, if_neg (by intro h; exact hc h.2)]; simp
    · have h2 : (if (hs.getD k default).frm ≤ pc ∧ pc < (hs.getD k default).to then [(k : Int)] else []).count (m : Int) = 0 := by
        split
        · rw [List.count_eq_zero]; simp; omega
        · rfl
      rw [h2, Nat.add_zero]
      have : (m < k ∧ (hs.getD m default).frm ≤ pc ∧ pc < (hs.getD m default).to) ↔ (m < k + 1 ∧ (hs.getD m default).frm ≤ pc ∧ pc < (hs.getD m default).to) := by
        constructor
        · rintro ⟨a, b⟩; exact ⟨by omega, b⟩
        · rintro ⟨a, b⟩; exact ⟨by omega, b⟩
      simp only [this]
theorem covP_lt {hs : List Hd} {pc : Int} {i : Nat} {a b : Int} (ha : (covP hs pc)[i]? = some a) (hb : (covP hs pc)[i + 1]? = some b) : a < b := by
  have := List.pairwise_iff_getElem.1 (covN_sorted hs pc hs.length)
  obtain ⟨h1, e1⟩ := List.getElem?_eq_some_iff.1 ha
  obtain ⟨h2, e2⟩ := List.getElem?_eq_some_iff.1 hb
  have := this i (i + 1) h1 h2 (by omega)
  rw [← e1, ← e2]
  exact this
/-- What the law asks of a handler and a place. -/
def wantP (h : Hd) (pc : Int) : Int := if h.frm ≤ pc ∧ pc < h.to then 1 else 0
theorem covP_want {hs : List Hd} {pc : Int} {k : Nat} {h : Hd} (hk : hs[k]? = some h) : (((covP hs pc).count (k : Int) : Nat) : Int) = wantP h pc := by
  unfold covP wantP
  rw [covN_count, getD_of hk]
  have := (List.getElem?_eq_some_iff.1 hk).1
  by_cases hc : h.frm ≤ pc ∧ pc < h.to
  · rw [if_pos hc, if_pos ⟨this, hc⟩]; rfl
  · rw [if_neg hc, if_neg (by intro h; exact hc h.2)]; rfl
theorem count_step {c : List Int} {j : Nat} {x y : Int} (hx : c[j]? = some x) : (c.take (j + 1)).count y = (c.take j).count y + if x = y then 1 else 0 := by
  rw [List.take_add_one, hx, List.count_append]
  simp [List.count_singleton]
theorem HRow.drewN {B : Nat} {w : World} {v : Value} {l : List Hd} (h : HRow B w v l) (n : Nat) : HRow B (w.drewN n) v l := Row.keep h fun _ _ => rfl
theorem Drawn.hrow {B : Nat} {w wr : World} {v : Value} {l : List Hd} (h : Drawn w wr) (hr : HRow B w v l) : HRow B wr v l := by
  obtain ⟨m, rfl⟩ := h
  exact hr.drewN m
theorem Drawn.trans {a b c : World} (h : Drawn a b) (k : Drawn b c) : Drawn a c := by
  obtain ⟨m, rfl⟩ := h
  obtain ⟨n, rfl⟩ := k
  exact ⟨m + n, by rw [World.drewN_drewN]⟩
set_option maxRecDepth 1000000 in
set_option maxHeartbeats 6400000 in
theorem covers_walk (s : ByteArray) (hs : List Hd) (hv : Value) (w : World) (hh : HRow w.heap.size w hv hs) (hok : Hok hs) :
    Calls Try.prog 7 #[.string s, hv] w fun e w' => e = .returned (.bool true) ∧ Below w.heap.size w w' := by
  obtain ⟨A2, c2, rfl, hc2, hml2⟩ := hh.form
  have HH := Lib.hid hh
  have HW := Lib.hid hok
  unfold maxLen at hml2
  clear hh hok
  have HDR := fun W => Lib.hid (refDecode_any s W)
  have HORD := Lib.hid (@ord_of (L s))
  have HSZ := Lib.hid (size_L s)
  obtain ⟨f, hf⟩ : ∃ f, decE (L s) = f := ⟨_, rfl⟩
  obtain ⟨l, hl⟩ : ∃ l, decL (L s) = l := ⟨_, rfl⟩
  rw [hf, hl] at HDR
  rw [hf, hl, ← HSZ.out] at HORD
  clear hf hl HSZ
  go_enter Try.func7, Try.ntmps7
  go_wp2_with fail
  refine (shown_any _).mono ?_
  rintro e w1 ⟨rfl, hb⟩
  have B1 := Lib.hid hb
  clear hb
  go_wp2_with fail
  refine (HDR _).out.mono ?_
  rintro e w2 ⟨v, rfl, ho, hb⟩
  have hz2 := hb.size
  have B2 := Lib.hid (Below.link B1.out hb)
  have R2 := Lib.hid ho.row
  have H2 := Lib.hid (HH.out.below B2.out (Nat.le_refl _))
  have hzw := B2.out.size
  obtain ⟨A, c, rfl⟩ := ho.form
  clear ho hb HDR
  by_cases h0 : f = 0
  · subst h0
    obtain ⟨ho1, ho2, ho3⟩ := HORD.out rfl
    have HO := Lib.hid ho1
    have hl0 : 0 < l.length := List.length_pos_iff.2 ho1.ne
    clear HORD ho1
    by_cases h6 : l.length ≤ 600
    · by_cases h4 : hs.length ≤ 40
      · have HCO := Lib.hid (cover_any w2.heap.size s.size l hs _ _ w2 R2.out (H2.out.more hzw) (Nat.le_refl _) HO.out (by omega) (by omega) (by omega) HW.out)
        obtain ⟨cf, hcf⟩ : ∃ x, covE l s.size hs = x := ⟨_, rfl⟩
        rw [hcf] at HCO
        have HCF := Lib.hid hcf
        clear hcf
        go_wp2_with fail
        refine HCO.out.mono ?_
        rintro e w3 ⟨u3, rfl, hlo, hb3⟩
        have hz3 := hb3.size
        have B3 := Lib.hid (Below.link B2.out hb3)
        have R3 := Lib.hid (R2.out.below hb3 (Nat.le_refl _))
        have H3 := Lib.hid (H2.out.below hb3 hzw)
        have HST := Lib.hid (starts_any w2.heap.size s.size l hs _ _ w3 R3.out (H3.out.more hzw) hz3 HO.out (by omega) (by omega) HW.out)
        have HLO := Lib.hid hlo
        obtain ⟨a3, c3, rfl⟩ := hlo.form
        clear hlo hb3 HCO
        go_wp2_with fail
        refine HST.out.mono ?_
        rintro e w4 ⟨u4, rfl, hst, hb4⟩
        have hz4 := hb4.size
        have B4 := Lib.hid (Below.link B3.out hb4)
        have R4 := Lib.hid (R3.out.below hb4 hz3)
        have H4 := Lib.hid (H3.out.below hb4 (by omega))
        have LC4 := Lib.hid (HLO.out.below hb4).row
        have ST4 := Lib.hid (show IRow w4.heap.size w4 u4 (staL l hs) from Row.of_own hst)
        obtain ⟨a4, c4, rfl⟩ := hst.form
        have hsl : (staL l hs).length = hs.length := staL_len l hs
        clear hst hb4 HST HLO
        by_cases hc0 : cf = 0
        · subst hc0
          have hca : covA l s.size hs = covL l hs := by unfold covA; rw [if_pos HCF.out]
          have hcl : (covL l hs).length = l.length := by simp [covL]
          rw [hca] at LC4 ⊢
          rw [hcl] at LC4 ⊢
          rw [hsl] at ST4 ⊢
          clear hca hcl hsl
          go_wp2
          go_loopw [11] (fun i wx => ∃ k : Nat, k ≤ hs.length ∧ i = .int .i64 k ∧ Drawn w4 wx) (fun i _ => hs.length - (intOf i).toNat)
          case atStart => exact ⟨0, Nat.zero_le _, rfl, Drawn.refl _⟩
          case round =>
            obtain ⟨k, hk, rfl, hd⟩ := hrel
            have HD := Lib.hid hd
            have hszd := hd.size
            have hszd2 : w4.heap.size ≤ wr.heap.size := by omega
            clear hd
            by_cases hlt : k < hs.length
            · have hx := List.getElem?_eq_getElem hlt
              generalize hs[k] = x at hx
              obtain ⟨b, o, rfl, hbB, d0, d1, d2, d3⟩ := (HD.out.hrow H4.out).at_ hx
              have HX := Lib.hid hx
              obtain ⟨m, hm1, hm2⟩ := sta_in HCF.out hx
              obtain ⟨m', y, hy, hyp, hm3⟩ := idx_found (l := l) (pc := x.at_) (by omega)
              have hmm : m' = m := by omega
              subst hmm
              have hsq : (staL l hs)[k]? = some (m' : Int) := by simp [staL, hx, hm1]
              obtain ⟨b1, o1, rfl, hb1, e0⟩ := (HD.out.irow ST4.out).at_ hsq
              obtain ⟨b2, o2, Ak, ck, At, ct, rfl, hb2, _, _, f0, f1, f2, f3, f4⟩ := (HD.out.nrow R4.out).at_ hy
              rw [hyp] at f0
              have hbw : b < wr.heap.size := by omega
              have hbw1 : b1 < wr.heap.size := by omega
              have hbw2 : b2 < wr.heap.size := by omega
              have g1 : ((l.length : Int) ≤ (m' : Int)) = False := eq_false (by omega)
              have g2 : ((m' : Int) < 0) = False := eq_false (by omega)
              clear hx hm1 hm3 hsq hy hyp hszd
              go_wp2
              go_quiet (exact ⟨rfl, rfl⟩)
              go_wp2
              obtain ⟨wo, hwo⟩ : ∃ wo, wo = wr := ⟨_, rfl⟩
              subst hwo
              go_loopw [12] (fun i wx => ∃ q : Nat, q ≤ l.length ∧ i = .int .i64 q ∧ Drawn w4 wx) (fun i _ => l.length - (intOf i).toNat)
              case atStart => exact ⟨0, Nat.zero_le _, rfl, HD.out.step _⟩
              case round =>
                clear HD f0 f1 f2 f3 f4 e0 d0 d1 d2 d3 hbw hbw1 hbw2 g1 g2 hszd2
                obtain ⟨q, hq, rfl, hd⟩ := hrel
                have HD := Lib.hid hd
                have hszd := hd.size
                have hszd2 : w4.heap.size ≤ wr.heap.size := by omega
                clear hd
                by_cases hltq : q < l.length
                · have hy := List.getElem?_eq_getElem hltq
                  generalize l[q] = y2 at hy
                  obtain ⟨bc, oc, Ac, cc, rfl, hbc, hrc, cc4⟩ := (HD.out.lrow LC4.out).at_ (covL_at (hs := hs) hy)
                  have hcl := len_covP hs y2.pc
                  have HY := Lib.hid hy
                  have HRC := Lib.hid hrc
                  have hbcw : bc < wr.heap.size := by omega
                  obtain ⟨cv, hcv⟩ : ∃ cv, covP hs y2.pc = cv := ⟨_, rfl⟩
                  have HCV := Lib.hid hcv
                  rw [hcv] at HRC hcl cc4
                  clear hy hrc hcv hszd
                  go_wp2
                  obtain ⟨wp, hwp⟩ : ∃ wo, wo = wr := ⟨_, rfl⟩
                  subst hwp
                  clear cc4
                  go_loopw [13, 14] (fun n j wx => ∃ jj : Nat, jj ≤ cv.length ∧ j = .int .i64 jj ∧ n = .int .i64 (((cv.take jj).count (k : Int) : Nat) : Int) ∧ Drawn wp wx) (fun _ j _ => cv.length - (intOf j).toNat)
                  case atStart => exact ⟨0, Nat.zero_le _, rfl, rfl, Drawn.refl _⟩
                  case round =>
                    obtain ⟨j, hj, rfl, rfl, hd2⟩ := hrel
                    have HD2 := Lib.hid hd2
                    have hszd := hd2.size
                    have hszd3 : wp.heap.size ≤ wr.heap.size := by omega
                    clear hd2
                    obtain ⟨be, oe, Ae, ce, hAe, hbe, hre, ce4⟩ := ((HD.out.trans HD2.out).lrow LC4.out).at_ (covL_at (hs := hs) HY.out)
                    rw [HCV.out] at hre ce4
                    have hbew : be < wr.heap.size := by omega
                    injection hAe with hAe
                    injection hAe with hAe1 hAe2
                    subst hAe1 hAe2
                    by_cases hjl : j < cv.length
                    · have hx2 := List.getElem?_eq_getElem hjl
                      generalize cv[j] = z at hx2
                      obtain ⟨b7, o7, rfl, hb7, e7⟩ := hre.at_ hx2
                      have hcs := count_step (y := (k : Int)) hx2
                      have hn0b : (cv.take j).count (k : Int) ≤ 40 := Nat.le_trans List.count_le_length (by rw [List.length_take]; omega)
                      obtain ⟨n0, hn0⟩ : ∃ n0, (cv.take j).count (k : Int) = n0 := ⟨_, rfl⟩
                      rw [hn0] at hcs hn0b
                      rw [hn0]
                      have HX2 := Lib.hid hcs
                      clear hcs hn0
                      have hb7w : b7 < wr.heap.size := by omega
                      have hjw : IntKind.i64.wrap ((j : Int) - 1) = (j : Int) - 1 := IntWalk.i64_in _ (by omega)
                      rcases Nat.eq_zero_or_pos j with hj0 | hj0
                      · subst hj0
                        rw [Nat.add_zero] at e7
                        clear hx2 hre
                        by_cases hzk : z = (k : Int)
                        · have e9 : (z == (k : Int)) = true := by simpa using hzk
                          have HZK := Lib.hid hzk
                          clear hzk
                          go_wp2
                          go_quiet (exact ⟨rfl, rfl⟩)
                          go_wp2
                          go_roundw
                          case rel => exact ⟨0 + 1, by omega, by go_num, by rw [HX2.out, if_pos HZK.out]; first | rfl | (congr 1; done) | simp, HD2.out.step _⟩
                          case measure => simp [intOf]; omega
                        · have e9 : (z == (k : Int)) = false := by simpa using hzk
                          have HZK := Lib.hid hzk
                          clear hzk
                          go_wp2
                          go_quiet (exact ⟨rfl, rfl⟩)
                          go_wp2
                          go_roundw
                          case rel => exact ⟨0 + 1, by omega, by go_num, by rw [HX2.out, if_neg HZK.out]; first | rfl | simp, HD2.out.step _⟩
                          case measure => simp [intOf]; omega
                      · obtain ⟨i, rfl⟩ : ∃ i, j = i + 1 := ⟨j - 1, by omega⟩
                        have hx3 := List.getElem?_eq_getElem (show i < cv.length by omega)
                        generalize cv[i]'_ = z3 at hx3
                        obtain ⟨b8, o8, hA8, hb8, e8⟩ := hre.at_ hx3
                        injection hA8 with hA8
                        injection hA8 with hA81 hA82
                        subst hA81 hA82
                        have hlt3 : z3 < z := covP_lt (hs := hs) (pc := y2.pc) (by rw [HCV.out]; exact hx3) (by rw [HCV.out]; exact hx2)
                        have g3 : (z ≤ z3) = False := eq_false (by omega)
                        clear hx2 hx3 hre hlt3
                        by_cases hzk : z = (k : Int)
                        · have e9 : (z == (k : Int)) = true := by simpa using hzk
                          have HZK := Lib.hid hzk
                          clear hzk
                          go_wp2
                          go_quiet (exact ⟨rfl, rfl⟩)
                          go_wp2
                          go_roundw
                          case rel => exact ⟨i + 1 + 1, by omega, by go_num, by rw [HX2.out, if_pos HZK.out]; first | rfl | (congr 1; done) | simp, HD2.out.step _⟩
                          case measure => simp [intOf]; omega
                        · have e9 : (z == (k : Int)) = false := by simpa using hzk
                          have HZK := Lib.hid hzk
                          clear hzk
                          go_wp2
                          go_quiet (exact ⟨rfl, rfl⟩)
                          go_wp2
                          go_roundw
                          case rel => exact ⟨i + 1 + 1, by omega, by go_num, by rw [HX2.out, if_neg HZK.out]; first | rfl | simp, HD2.out.step _⟩
                          case measure => simp [intOf]; omega
                    · obtain rfl : j = cv.length := by omega
                      have hwant : (((cv.take cv.length).count (k : Int) : Nat) : Int) = wantP x y2.pc := by
                        rw [List.take_length, ← HCV.out]
                        exact covP_want HX.out
                      rw [hwant]
                      obtain ⟨bh, oh, hAh, hbh, d0, d1, d2, d3⟩ := ((HD.out.trans HD2.out).hrow H4.out).at_ HX.out
                      injection hAh with hAh
                      injection hAh with hAh1 hAh2
                      subst hAh1 hAh2
                      obtain ⟨bl, ol, Ak2, ck2, At2, ct2, hAl, hbl, _, _, f0, f1, f2, f3, f4⟩ := ((HD.out.trans HD2.out).nrow R4.out).at_ HY.out
                      injection hAl with hAl
                      injection hAl with hAl1 hAl2
                      subst hAl1 hAl2
                      have hbhw : b < wr.heap.size := by omega
                      have hblw : b2 < wr.heap.size := by omega
                      obtain ⟨wt, hwt⟩ : ∃ wt, wantP x y2.pc = wt := ⟨_, rfl⟩
                      rw [hwt]
                      have HWT := Lib.hid hwt
                      clear hwant hre hwt
                      by_cases hp1 : x.frm ≤ y2.pc
                      · by_cases hp2 : y2.pc < x.to
                        · obtain rfl : wt = 1 := by rw [← HWT.out]; unfold wantP; rw [if_pos ⟨hp1, hp2⟩]
                          go_wp2
                          go_quiet (exact ⟨rfl, rfl⟩)
                          go_wp2
                          go_roundw
                          case rel => exact ⟨q + 1, by omega, by go_num, (HD.out.trans HD2.out).step _⟩
                          case measure => simp [intOf]; omega
                        · obtain rfl : wt = 0 := by rw [← HWT.out]; unfold wantP; rw [if_neg (by intro h; exact hp2 h.2)]
                          have g4 : (y2.pc < x.to) = False := eq_false hp2
                          clear hp2
                          go_wp2
                          go_quiet (exact ⟨rfl, rfl⟩)
                          go_wp2
                          go_roundw
                          case rel => exact ⟨q + 1, by omega, by go_num, (HD.out.trans HD2.out).step _⟩
                          case measure => simp [intOf]; omega
                      · obtain rfl : wt = 0 := by rw [← HWT.out]; unfold wantP; rw [if_neg (by intro h; exact hp1 h.1)]
                        have g4 : (x.frm ≤ y2.pc) = False := eq_false hp1
                        clear hp1
                        go_wp2
                        go_quiet (exact ⟨rfl, rfl⟩)
                        go_wp2
                        go_roundw
                        case rel => exact ⟨q + 1, by omega, by go_num, (HD.out.trans HD2.out).step _⟩
                        case measure => simp [intOf]; omega
                · go_wp2
                  go_roundw
                  case rel => exact ⟨k + 1, by omega, by go_num, HD.out⟩
                  case measure => simp [intOf]; omega
            · go_wp2
              go_ret
              exact ⟨rfl, HD.out.keep B4.out⟩
        · have hca : covA l s.size hs = [] := by unfold covA; rw [if_neg (by rw [HCF.out]; exact hc0)]
          have e1 : (cf != 0) = true := by simpa using hc0
          rw [hca]
          clear hc0 hca hsl
          go_wp2
          go_ret
          exact ⟨rfl, B4.out⟩
      · have h7 : 40 < hs.length := by omega
        clear h4
        go_wp2
        go_ret
        exact ⟨rfl, B2.out⟩
    · have h7 : 600 < l.length := by omega
      clear h6
      go_wp2
      go_ret
      exact ⟨rfl, B2.out⟩
  · have e1 : (f != 0) = true := by simpa using h0
    clear h0 HORD
    go_wp2
    go_ret
    exact ⟨rfl, B2.out⟩
end Go.Proofs.Ytbeelcklbdnjnaa
