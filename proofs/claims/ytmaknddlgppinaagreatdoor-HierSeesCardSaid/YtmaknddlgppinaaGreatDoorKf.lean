/-
  WALK of HierSees.
-/
import Derived.Test.YtmaknddlgppinaaGreatDoorX30
import Derived.Test.YtmaknddlgppinaaGreatDoorX29
import Derived.Deep.QuietTactic
set_option linter.unusedVariables false
set_option linter.unusedSimpArgs false
namespace Go.Proofs.YtmaknddlgppinaaGreatDoor
open Go.RowKit

set_option maxRecDepth 1000000 in
set_option maxHeartbeats 12800000 in
theorem sees_any {w : World} (hN : Blt w) {B0 : Nat} (rs ms : List Rw) (l : List Int) (v v2 v3 : Value) (hr : RawsRow B0 w v rs) (hm : RawsRow B0 w v2 ms) (hi : IRow B0 w v3 l) (hl : ∀ z ∈ l, B64 z) (hB : B0 ≤ w.heap.size) :
    Calls Tryz.prog 6 #[v, v2, v3] w fun e w' => e = .returned (.bool true) ∧ Below w.heap.size w w' := by
  have HN := Lib.hid hN
  have HR := Lib.hid hr
  have HM := Lib.hid hm
  have HI := Lib.hid hi
  have HL := Lib.hid hl
  clear hN hr hm hi hl
  go_enter Tryz.func6, Tryz.ntmps6
  go_wp2_with fail
  refine (shown_any HN.out).mono ?_
  rintro e w1 ⟨rfl, b1⟩
  have N1 := Lib.hid (HN.out.below b1)
  have R1 := Lib.hid (HR.out.keep (fun p hp => b1.cell (Nat.lt_of_lt_of_le hp hB)))
  have hB1 : B0 ≤ w1.heap.size := Nat.le_trans hB b1.size
  have B1 := Lib.hid b1
  clear b1 HN HR
  go_wp2_with fail
  refine (files_any rs v w1 R1.out hB1).mono ?_
  rintro e w2 ⟨vf, rfl, own, b2⟩
  have F2 := Lib.hid own.row
  have N2 := Lib.hid (N1.out.below b2)
  have hB2 : B0 ≤ w2.heap.size := Nat.le_trans hB1 b2.size
  have B2 := Lib.hid (B1.out.trans (b2.mono B1.out.size))
  clear own b2 N1 R1 B1
  go_wp2_with fail
  refine (New_any N2.out (filesR rs) vf F2.out (Nat.le_refl _) (filesR_texts rs)).mono ?_
  rintro e w3 ⟨ha, b3⟩
  have hB3 : B0 ≤ w3.heap.size := Nat.le_trans hB2 b3.size
  have B3 := Lib.hid (B2.out.trans (b3.mono B2.out.size))
  clear b3 N2 F2 B2
  rcases ha with ⟨x, a, ho, rfl⟩ | ⟨ds, nb, mb, A, cap, cl, sl, S, ho, rfl, ht⟩
  · have hx := open_err ho
    have hx1 : (((x : Nat) : Int) == 0) = false := by simp; omega
    have hx2 : (((x : Nat) : Int) != 0) = true := by simp; omega
    clear ho hx
    go_wp2
    go_ret
    exact ⟨rfl, B3.out⟩
  have HO := Lib.hid ho
  have hop := open_raw good_built ho
  have HG := Lib.hid hop.1
  have hlen : ds.length ≤ 100 := by
    have := hop.2.2.1
    have h2 := hop.2.2.2
    have : builtP.length = 14 := rfl
    omega
  clear hop ho
  have HT3 := Lib.hid ht
  have hnb := Nat.lt_of_lt_of_le ht.tlt ht.hB
  clear ht
  go_wp2_with fail
  have M3 := Lib.hid (HM.out.keep (fun p hp => B3.out.cell (Nat.lt_of_lt_of_le hp hB)))
  refine (files_any ms v2 w3 M3.out hB3).mono ?_
  rintro e w4 ⟨vg, rfl, own, b4⟩
  have F4 := Lib.hid own.row
  have B4 := Lib.hid b4
  clear own b4
  go_wp2_with fail
  refine (Open_any (HT3.out.below B4.out) (filesR ms) vg F4.out (Nat.le_refl _) (filesR_texts ms) (Nat.le_trans hlen (by decide))).mono ?_
  rintro e w5 ⟨ha, b5⟩
  have B35 := Lib.hid (B4.out.trans (b5.mono B4.out.size))
  have B5 := Lib.hid (B3.out.trans (B35.out.mono B3.out.size))
  clear b5 F4 B4
  rcases ha with ⟨x, a, ho, rfl⟩ | ⟨es, nb2, mb2, A2, cap2, cl2, sl2, S2, ho, rfl, ht⟩
  · have hx := open_err ho
    have hx1 : (((x : Nat) : Int) == 0) = false := by simp; omega
    have hx2 : (((x : Nat) : Int) != 0) = true := by simp; omega
    clear ho hx
    go_wp2
    go_ret
    exact ⟨rfl, B5.out⟩
  have HO2 := Lib.hid ho
  have hop := open_raw HG.out ho
  have HG2 := Lib.hid hop.1
  have hms := hop.2.2.1
  have HLE := Lib.hid hop.2.2.2
  clear hop ho
  have HT5 := Lib.hid (HT3.out.below B35.out)
  have HT52 := Lib.hid ht
  clear ht HT3 B35 M3
  go_wp2_with fail
  refine (Names_any HT5.out).mono ?_
  rintro e w8 ⟨vn, rfl, own, b8⟩
  obtain ⟨an, cn8, rfl⟩ := own.form
  rw [List.length_map] at own ⊢
  obtain ⟨n, hn⟩ : ∃ n, ds.length = n := ⟨_, rfl⟩
  have HNN := Lib.hid hn
  rw [hn] at own hlen ⊢
  clear hn
  have NR := Lib.hid own
  have B58 := Lib.hid b8
  clear own b8
  go_wp2_with fail
  refine (Names_any (HT52.out.below B58.out)).mono ?_
  rintro e w9 ⟨vm, rfl, own, b9⟩
  obtain ⟨am, cm8, rfl⟩ := own.form
  rw [List.length_map] at own ⊢
  obtain ⟨m, hmm⟩ : ∃ m, es.length = m := ⟨_, rfl⟩
  have HMM := Lib.hid hmm
  rw [hmm] at own ⊢
  clear hmm
  have MR := Lib.hid own
  have B89 := Lib.hid b9
  clear own b9
  go_wp2_with fail
  have B59 := Lib.hid (B58.out.trans (B89.out.mono B58.out.size))
  have M9 := Lib.hid (HM.out.keep (fun p hp => (B5.out.trans (B59.out.mono B5.out.size)).cell (Nat.lt_of_lt_of_le hp hB)))
  have hB9 : B0 ≤ w9.heap.size := Nat.le_trans (Nat.le_trans hB B5.out.size) B59.out.size
  refine (files_any ms v2 w9 M9.out hB9).mono ?_
  rintro e w10 ⟨vh, rfl, own, b10⟩
  obtain ⟨ah, ch, rfl, _, _⟩ := own.row.form
  have hfl : (filesR ms).length = ms.length := by simp [filesR]; omega
  rw [hfl]
  obtain ⟨f, hf⟩ : ∃ f, ms.length = f := ⟨_, rfl⟩
  rw [hf] at hms ⊢
  have hmn : m = n + f := by rw [← HMM.out, ← HNN.out, ← hf]; exact HLE.out
  have hw1 : IntKind.i64.wrap ((n : Int) + (f : Int)) = (m : Int) := by rw [IntWalk.i64_in _ (by omega)]; omega
  have B910 := Lib.hid b10
  have hm1000 : m ≤ 1000 := by omega
  have hnm : n ≤ m := by omega
  clear own b10 hf hfl hmn
  go_wp2
  have b510 := B59.out.trans (B910.out.mono B59.out.size)
  have HT := Lib.hid (HT5.out.below (b510.mono HT5.out.hB))
  have HT2 := Lib.hid (HT52.out.below (b510.mono HT52.out.hB))
  have BW := Lib.hid (B5.out.trans (b510.mono B5.out.size))
  have b810 := B89.out.trans (B910.out.mono B89.out.size)
  have NA := Lib.hid (NR.out.row.keep (fun p hp => b810.cell hp))
  have MA := Lib.hid (MR.out.row.keep (fun p hp => B910.out.cell hp))
  have hs8 := b810.size
  have hs9 := B910.out.size
  clear b510 b810 HT5 HT52 B5 B59 B89 B910 B58 NR MR M9 hB9
  obtain ⟨U, hU⟩ : ∃ x, x = w10 := ⟨_, rfl⟩
  subst hU
  go_loopg [16] m (fun g iv wx => ∃ i : Nat, iv = .int .i64 i ∧ i + g = m ∧ Below U.heap.size U wx)
  case atStart => exact ⟨0, rfl, by omega, Below.refl _ _⟩
  case round =>
    obtain ⟨i, rfl, hig, hb⟩ := hrel
    have HB := Lib.hid hb
    have hbs := hb.size
    clear hb
    by_cases him : i < m
    · obtain ⟨c, hc⟩ : ∃ c, es[i]? = some c := ⟨_, List.getElem?_eq_getElem (by rw [HMM.out]; exact him)⟩
      have HC := Lib.hid hc
      obtain ⟨bm, om, s, rfl, hbm, cm0, hs, hz⟩ := MA.out.at_ (x := c.name) (by rw [List.getElem?_map, hc]; rfl)
      have hbmU : bm < U.heap.size := Nat.lt_of_lt_of_le hbm hs9
      have cmw := (HB.out.cell (p := ⟨bm, om + i, none⟩) hbmU).trans cm0
      have hbmw : bm < wr.heap.size := Nat.lt_of_lt_of_le hbmU hbs
      have HS := Lib.hid hs
      have hg1 : gk - 1 < gk := by omega
      have hnames := open_names HG.out HO2.out hc
      rw [HNN.out] at hnames
      have HNM := Lib.hid hnames
      clear hc hs hnames cm0 hbm
      go_upto_region 17 with fail
      go_cut [17, 18] (fun va vb wx => ∃ y n5 n6 vi b3 b4, va = .pointer (some ⟨y, 0, none⟩) ∧ vb = .bool true ∧ Below wr.heap.size wr wx ∧ wx.heap[y]? = some (.cells #[.string n5, .string n6, vi, .bool b3, .bool b4, .bool (decide (n ≤ i)), .int .i64 c.at_] 47 (0, 0)))
      case first => as_aux_lemma =>
        go_wp2_with fail
        refine (Find_any (HT2.out.below (HB.out.mono HT2.out.hB)) s hz).mono ?_
        rintro e x1 ⟨ha, b1⟩
        rcases ha with ⟨h0, _⟩ | ⟨i2, c2, k2, ifn2, hi2, hc2, hnm2, hifr2, rfl⟩
        · rw [HS.out, ix_of HG2.out.apart HC.out] at h0; cases h0
        rw [HS.out, ix_of HG2.out.apart HC.out] at hi2
        cases hi2
        rw [HC.out] at hc2
        cases hc2
        have B1 := Lib.hid b1
        obtain ⟨ai2, ci2, rfl, _, _⟩ := hifr2.length
        rw [HNN.out]
        clear hnm2 hifr2 b1
        go_wp2
        go_meet
        case rel => exact ⟨_, _, _, _, _, _, rfl, rfl, B1.out.alloc B1.out.size _, hheap_new _ _⟩
      obtain ⟨y, n5, n6, vi, b3, b4, rfl, rfl, hb, hy⟩ := hcut
      have HB2 := Lib.hid (HB.out.trans (hb.mono HB.out.size))
      have cmx := (hb.cell (p := ⟨bm, om + i, none⟩) hbmw).trans cmw
      have hbmx : bm < wc.heap.size := Nat.lt_of_lt_of_le hbmw hb.size
      have hyy := lt_of_block hy
      have y5 : wc.cell? ⟨y, 5, none⟩ = some (.bool (decide (n ≤ i))) := kcells_of hy 5
      have y6 : wc.cell? ⟨y, 6, none⟩ = some (.int .i64 c.at_) := kcells_of hy 6
      have hbsx := HB2.out.size
      clear hb hy cmw hbmw
      obtain ⟨W17, hu⟩ : ∃ x, x = wc := ⟨_, rfl⟩
      subst hu
      go_upto_region 18 with fail
      go_cut [128] (fun v wx => v = .bool false ∧ Drawn W17 wx)
      case first => as_aux_lemma =>
        by_cases hin : i < n
        · have hc := HNM.out.1 hin
          obtain ⟨bn, on, t, rfl, hbn, cn0, ht, htz⟩ := NA.out.at_ (x := c.name) (by rw [List.getElem?_map, hc]; rfl)
          obtain rfl : s = t := bytes_eq (by rw [HS.out, ht])
          have hbnU : bn < U.heap.size := Nat.lt_of_lt_of_le hbn hs8
          have cnx := (HB2.out.cell (p := ⟨bn, on + i, none⟩) hbnU).trans cn0
          have hbnx : bn < W17.heap.size := Nat.lt_of_lt_of_le hbnU hbsx
          have d5 : decide (n ≤ i) = false := decide_eq_false (by omega)
          rw [d5] at y5
          have q1 : decide ((n : Int) ≤ (i : Int)) = false := decide_eq_false (by omega)
          have q2 : decide ((i : Int) < (n : Int)) = true := decide_eq_true (by omega)
          have q3 : ((n : Int) ≤ (i : Int)) = False := eq_false (by omega)
          have q4 : (i : Int) < (n : Int) := by omega
          have e1 : (s.toList == s.toList) = true := by simp
          have e2 : (s.toList != s.toList) = false := by simp
          clear hc ht d5 cn0 hin
          go_quiet (fail)
          go_wp2
          go_meet
          case rel => exact ⟨rfl, (Drawn.refl _).step _⟩
        · have d5 : decide (n ≤ i) = true := decide_eq_true (by omega)
          rw [d5] at y5
          have hat := HNM.out.2 (by omega)
          obtain ⟨p, hp⟩ : ∃ p, i - n = p := ⟨_, rfl⟩
          rw [hp] at hat
          rw [hat] at y6
          have q1 : decide ((n : Int) ≤ (i : Int)) = true := decide_eq_true (by omega)
          have q2 : decide ((i : Int) < (n : Int)) = false := decide_eq_false (by omega)
          have q3 : ((i : Int) < (n : Int)) = False := eq_false (by omega)
          have q4 : (n : Int) ≤ (i : Int) := by omega
          have q5 : IntKind.i64.wrap ((i : Int) - (n : Int)) = (p : Int) := by rw [IntWalk.i64_in _ (by omega)]; omega
          clear hat hp hin d5
          go_quiet (fail)
          go_wp2
          go_meet
          case rel => exact ⟨rfl, (Drawn.refl _).step _⟩
      obtain ⟨rfl, hd⟩ := hcut
      have HB3 := Lib.hid (HB2.out.trans (hd.below.mono HB2.out.size))
      clear hd
      go_wp2
      go_roundg (gk - 1)
      case measure => exact hg1
      case rel => exact ⟨i + 1, by go_num, by omega, HB3.out⟩
    · have him2 : m ≤ i := by omega
      clear him
      have HU := Lib.hid (show Below U.heap.size U wr from HB.out)
      obtain ⟨W20, hu⟩ : ∃ x, x = wr := ⟨_, rfl⟩
      subst hu
      go_wp2_with fail
      have hB20 : B0 ≤ W20.heap.size := Nat.le_trans (Nat.le_trans hB BW.out.size) HU.out.size
      have I20 := Lib.hid (HI.out.keep (fun p hp => (BW.out.trans (HU.out.mono BW.out.size)).cell (Nat.lt_of_lt_of_le hp hB)))
      refine (types_any l v3 W20 I20.out hB20 (fun c hc => HL.out c hc)).mono ?_
      rintro e W21 ⟨vt, rfl, own, b21⟩
      have TR := Lib.hid (types_row own)
      obtain ⟨a8, c8, e8, _, hmax8⟩ := (types_row own).length
      subst e8
      obtain ⟨q, hq⟩ : ∃ q, (typesR l).length = q := ⟨_, rfl⟩
      have hq12 : q ≤ 12 := by rw [← hq]; simp [typesR]; omega
      rw [hq] at TR ⊢
      have HQ := Lib.hid hq
      have HX := Lib.hid (HU.out.trans (b21.mono HU.out.size))
      clear own b21 hq hmax8 I20 hB20 HU HB MA NA hs8 hs9
      go_wp2
      go_loopg [20] q (fun g iv wx => ∃ i : Nat, iv = .int .i64 i ∧ i + g = q ∧ Below W21.heap.size W21 wx)
      case atStart => exact ⟨0, rfl, by omega, Below.refl _ _⟩
      case round =>
        obtain ⟨i, rfl, hig2, hb⟩ := hrel
        have HB := Lib.hid hb
        clear hb
        obtain ⟨wo, hwo⟩ : ∃ wo, wo = wr := ⟨_, rfl⟩
        subst hwo
        obtain ⟨g1, hg1⟩ : ∃ g, g = gk := ⟨_, rfl⟩
        subst hg1
        by_cases hiq : i < q
        · obtain ⟨⟨d1, s1⟩, ht1⟩ : ∃ t, (typesR l)[i]? = some t := ⟨_, List.getElem?_eq_getElem (by rw [HQ.out]; exact hiq)⟩
          obtain ⟨bt, ot, rfl, hbt, ca0, ca1⟩ := TR.out.at_ ht1
          have hz1 := types_small ht1
          simp only at hz1 ca0 ca1
          have hg2 : g1 - 1 < g1 := by omega
          clear ht1
          go_wp2
          go_loopg [21] q (fun g iv wx => ∃ k : Nat, iv = .int .i64 k ∧ k + g = q ∧ Below W21.heap.size W21 wx)
          case atStart => exact ⟨0, rfl, by omega, HB.out⟩
          case round =>
            obtain ⟨k, rfl, hkg, hb⟩ := hrel
            have HBK := Lib.hid hb
            clear hb
            by_cases hkq : k < q
            · obtain ⟨⟨d2, s2⟩, ht2⟩ : ∃ t, (typesR l)[k]? = some t := ⟨_, List.getElem?_eq_getElem (by rw [HQ.out]; exact hkq)⟩
              obtain ⟨bt', ot', e0, hbt', cb0, cb1⟩ := TR.out.at_ ht2
              injection e0 with e0
              injection e0 with e0 e1
              subst e0
              subst e1
              have hz2 := types_small ht2
              simp only at hz2 cb0 cb1
              have hg3 : gk - 1 < gk := by omega
              clear ht2 hbt'
              have HU := Lib.hid (HX.out.trans (HBK.out.mono HX.out.size))
              have c1w := (HBK.out.cell (p := ⟨bt, ot + i * 2 + 1, none⟩) hbt).trans ca1
              have c2w := (HBK.out.cell (p := ⟨bt, ot + k * 2 + 1, none⟩) hbt).trans cb1
              have hbtw : bt < wr.heap.size := Nat.lt_of_lt_of_le hbt HBK.out.size
              go_upto_region 27 with fail
              go_cut [22, 23] (fun va vb wx => ∃ y, ∃ b : Bool, va = .pointer (some ⟨y, 0, none⟩) ∧ vb = .bool b ∧ (b = true ↔ ix ds s1.data.toList ≠ none) ∧ Below wr.heap.size wr wx)
              case first => as_aux_lemma =>
                go_wp2_with fail
                refine (Find_any (HT.out.below (HU.out.mono HT.out.hB)) s1 hz1).mono ?_
                rintro e x1 ⟨ha, b1⟩
                have B1 := Lib.hid b1
                rcases ha with ⟨h0, rfl⟩ | ⟨i2, c2, k2, ifn2, hi2, hc2, hnm2, hifr2, rfl⟩
                · have H0 := Lib.hid h0
                  unfold zeroCls
                  clear h0 b1
                  go_wp2
                  go_meet
                  case rel => exact ⟨_, false, rfl, rfl, by simp [H0.out], B1.out.alloc B1.out.size _⟩
                · have H0 := Lib.hid hi2
                  obtain ⟨ai2, ci2, rfl, _, _⟩ := hifr2.length
                  clear hnm2 hifr2 b1 hi2 hc2
                  go_wp2
                  go_meet
                  case rel => exact ⟨_, true, rfl, rfl, by simp [H0.out], B1.out.alloc B1.out.size _⟩
              obtain ⟨y1y, b1, rfl, rfl, hbb1, hb⟩ := hcut
              have HB1 := Lib.hid hbb1
              have HBL := Lib.hid (HBK.out.trans (hb.mono HBK.out.size))
              have c2x := (hb.cell (p := ⟨bt, ot + k * 2 + 1, none⟩) hbtw).trans c2w
              have hbtx : bt < wc.heap.size := Nat.lt_of_lt_of_le hbtw hb.size
              clear hb hbb1 c1w c2w hbtw HU
              obtain ⟨W27, hu⟩ : ∃ x, x = wc := ⟨_, rfl⟩
              subst hu
              have HU := Lib.hid (HX.out.trans (HBL.out.mono HX.out.size))
              go_upto_region 28 with fail
              go_cut [24, 25] (fun va vb wx => ∃ y, ∃ b : Bool, va = .pointer (some ⟨y, 0, none⟩) ∧ vb = .bool b ∧ (b = true ↔ ix ds s2.data.toList ≠ none) ∧ Below W27.heap.size W27 wx)
              case first => as_aux_lemma =>
                go_wp2_with fail
                refine (Find_any (HT.out.below (HU.out.mono HT.out.hB)) s2 hz2).mono ?_
                rintro e x1 ⟨ha, b1⟩
                have B1 := Lib.hid b1
                rcases ha with ⟨h0, rfl⟩ | ⟨i2, c2, k2, ifn2, hi2, hc2, hnm2, hifr2, rfl⟩
                · have H0 := Lib.hid h0
                  unfold zeroCls
                  clear h0 b1
                  go_wp2
                  go_meet
                  case rel => exact ⟨_, false, rfl, rfl, by simp [H0.out], B1.out.alloc B1.out.size _⟩
                · have H0 := Lib.hid hi2
                  obtain ⟨ai2, ci2, rfl, _, _⟩ := hifr2.length
                  clear hnm2 hifr2 b1 hi2 hc2
                  go_wp2
                  go_meet
                  case rel => exact ⟨_, true, rfl, rfl, by simp [H0.out], B1.out.alloc B1.out.size _⟩
              obtain ⟨y2y, b2, rfl, rfl, hbb2, hb⟩ := hcut
              have HB2 := Lib.hid hbb2
              have HBM := Lib.hid (HBL.out.trans (hb.mono HBL.out.size))
              clear hb hbb2 c2x hbtx HU
              obtain ⟨W28, hu⟩ : ∃ x, x = wc := ⟨_, rfl⟩
              subst hu
              have HU := Lib.hid (HX.out.trans (HBM.out.mono HX.out.size))
              have hbtw : bt < W28.heap.size := Nat.lt_of_lt_of_le hbt HBM.out.size
              replace ca0 := (HBM.out.cell (p := ⟨bt, ot + i * 2, none⟩) hbt).trans ca0
              replace ca1 := (HBM.out.cell (p := ⟨bt, ot + i * 2 + 1, none⟩) hbt).trans ca1
              replace cb0 := (HBM.out.cell (p := ⟨bt, ot + k * 2, none⟩) hbt).trans cb0
              replace cb1 := (HBM.out.cell (p := ⟨bt, ot + k * 2 + 1, none⟩) hbt).trans cb1
              go_upto_region 29 with fail
              go_cut [189] (fun v wx => v = .bool false ∧ Below W28.heap.size W28 wx)
              case first => as_aux_lemma =>
                cases b1 with
                | false =>
                  have T0 := (Below.refl W28.heap.size W28).drew
                  refine wp_region_held_drew (S := fun V => Below W28.heap.size W28 V) (by kernel_rfl) T0 (fun hS0 => ?_)
                  refine wpAnyH_take (i := 0) (oi := ({ dst := some 163, op := Op.move (Operand.tmp 23), type := 4, pos := "law.go:297", after := #[], guard := none } : Oper)) (v := ?av34) rfl (by kernel_rfl) (by kernel_rfl) (by kernel_rfl) (fun _ _ _ h => h) (Or.inl ⟨by rfl, ?ay34⟩) T0 ?_
                  case ay34 => (intro V hSw; go_simp; try with_reducible rfl)
                  try simp only [Act.put, List.setIfInBounds_toArray, List.set_cons_zero, List.set_cons_succ]
                  refine wpAnyH_take (i := 1) (oi := ({ dst := some 164, op := Op.move (Operand.tmp 163), type := 4, pos := "law.go:297", after := #[{ on := 0, ground := Ground.data }], guard := none } : Oper)) (v := ?av35) rfl (by kernel_rfl) (by kernel_rfl) (by kernel_rfl) (fun _ _ _ h => h) (Or.inl ⟨by rfl, ?ay35⟩) T0 ?_
                  case ay35 => (intro V hSw; go_simp; try with_reducible rfl)
                  try simp only [Act.put, List.setIfInBounds_toArray, List.set_cons_zero, List.set_cons_succ]
                  refine wpAnyH_take (i := 2) (oi := ({ dst := some 165, op := Op.move (Operand.tmp 25), type := 4, pos := "law.go:297", after := #[{ on := 1, ground := Ground.guard }], guard := some (1, true) } : Oper)) (v := undef) rfl (by kernel_rfl) (by kernel_rfl) (by kernel_rfl) (fun _ _ _ h => h) (Or.inr ⟨by rfl, rfl⟩) T0 ?_
                  try simp only [Act.put, List.setIfInBounds_toArray, List.set_cons_zero, List.set_cons_succ]
                  refine wpAnyH_take (i := 3) (oi := ({ dst := some 166, op := Op.pick (Operand.tmp 164) (Operand.tmp 165) (Operand.const (Value.bool false)), type := 4, pos := "law.go:297", after := #[{ on := 1, ground := Ground.data }, { on := 2, ground := Ground.data }], guard := none } : Oper)) (v := ?av36) rfl (by kernel_rfl) (by kernel_rfl) (by kernel_rfl) (fun _ _ _ h => h) (Or.inl ⟨by rfl, ?ay36⟩) T0 ?_
                  case ay36 => (intro V hSw; go_simp; try with_reducible rfl)
                  try simp only [Act.put, List.setIfInBounds_toArray, List.set_cons_zero, List.set_cons_succ]
                  refine wpAnyH_take (i := 4) (oi := ({ dst := some 167, op := Op.move (Operand.tmp 166), type := 4, pos := "law.go:297", after := #[{ on := 3, ground := Ground.data }, { on := 1, ground := Ground.chain }], guard := none } : Oper)) (v := ?av37) rfl (by kernel_rfl) (by kernel_rfl) (by kernel_rfl) (fun _ _ _ h => h) (Or.inl ⟨by rfl, ?ay37⟩) T0 ?_
                  case ay37 => (intro V hSw; go_simp; try with_reducible rfl)
                  try simp only [Act.put, List.setIfInBounds_toArray, List.set_cons_zero, List.set_cons_succ]
                  refine wpAnyH_take (i := 5) (oi := ({ dst := some 168, op := Op.move (Operand.tmp 8), type := 32, pos := "law.go:297", after := #[{ on := 4, ground := Ground.guard }], guard := some (4, true) } : Oper)) (v := undef) rfl (by kernel_rfl) (by kernel_rfl) (by kernel_rfl) (fun _ _ _ h => h) (Or.inr ⟨by rfl, rfl⟩) T0 ?_
                  try simp only [Act.put, List.setIfInBounds_toArray, List.set_cons_zero, List.set_cons_succ]
                  refine wpAnyH_take (i := 6) (oi := ({ dst := some 169, op := Op.move (Operand.tmp 19), type := 39, pos := "law.go:297", after := #[{ on := 4, ground := Ground.guard }], guard := some (4, true) } : Oper)) (v := undef) rfl (by kernel_rfl) (by kernel_rfl) (by kernel_rfl) (fun _ _ _ h => h) (Or.inr ⟨by rfl, rfl⟩) T0 ?_
                  try simp only [Act.put, List.setIfInBounds_toArray, List.set_cons_zero, List.set_cons_succ]
                  refine wpAnyH_take (i := 7) (oi := ({ dst := some 170, op := Op.move (Operand.tmp 20), type := 3, pos := "law.go:297", after := #[{ on := 4, ground := Ground.guard }], guard := some (4, true) } : Oper)) (v := undef) rfl (by kernel_rfl) (by kernel_rfl) (by kernel_rfl) (fun _ _ _ h => h) (Or.inr ⟨by rfl, rfl⟩) T0 ?_
                  try simp only [Act.put, List.setIfInBounds_toArray, List.set_cons_zero, List.set_cons_succ]
                  refine wpAnyH_take (i := 8) (oi := ({ dst := some 171, op := Op.indexAddr 39 (Operand.tmp 169) (Operand.tmp 170), type := 0, pos := "law.go:297", after := #[{ on := 6, ground := Ground.data }, { on := 7, ground := Ground.data }, { on := 4, ground := Ground.guard }], guard := some (4, true) } : Oper)) (v := undef) rfl (by kernel_rfl) (by kernel_rfl) (by kernel_rfl) (fun _ _ _ h => h) (Or.inr ⟨by rfl, rfl⟩) T0 ?_
                  try simp only [Act.put, List.setIfInBounds_toArray, List.set_cons_zero, List.set_cons_succ]
                  refine wpAnyH_take (i := 9) (oi := ({ dst := some 172, op := Op.load 31 (Operand.tmp 171), type := 31, pos := "law.go:297", after := #[{ on := 8, ground := Ground.data }, { on := 4, ground := Ground.guard }], guard := some (4, true) } : Oper)) (v := undef) rfl (by kernel_rfl) (by kernel_rfl) (by kernel_rfl) (fun _ _ _ h => h) (Or.inr ⟨by rfl, rfl⟩) T0 ?_
                  try simp only [Act.put, List.setIfInBounds_toArray, List.set_cons_zero, List.set_cons_succ]
                  refine wpAnyH_take (i := 10) (oi := ({ dst := some 173, op := Op.move (Operand.tmp 19), type := 39, pos := "law.go:297", after := #[{ on := 4, ground := Ground.guard }], guard := some (4, true) } : Oper)) (v := undef) rfl (by kernel_rfl) (by kernel_rfl) (by kernel_rfl) (fun _ _ _ h => h) (Or.inr ⟨by rfl, rfl⟩) T0 ?_
                  try simp only [Act.put, List.setIfInBounds_toArray, List.set_cons_zero, List.set_cons_succ]
                  refine wpAnyH_take (i := 11) (oi := ({ dst := some 174, op := Op.move (Operand.tmp 21), type := 3, pos := "law.go:297", after := #[{ on := 4, ground := Ground.guard }], guard := some (4, true) } : Oper)) (v := undef) rfl (by kernel_rfl) (by kernel_rfl) (by kernel_rfl) (fun _ _ _ h => h) (Or.inr ⟨by rfl, rfl⟩) T0 ?_
                  try simp only [Act.put, List.setIfInBounds_toArray, List.set_cons_zero, List.set_cons_succ]
                  refine wpAnyH_take (i := 12) (oi := ({ dst := some 175, op := Op.indexAddr 39 (Operand.tmp 173) (Operand.tmp 174), type := 0, pos := "law.go:297", after := #[{ on := 10, ground := Ground.data }, { on := 11, ground := Ground.data }, { on := 4, ground := Ground.guard }], guard := some (4, true) } : Oper)) (v := undef) rfl (by kernel_rfl) (by kernel_rfl) (by kernel_rfl) (fun _ _ _ h => h) (Or.inr ⟨by rfl, rfl⟩) T0 ?_
                  try simp only [Act.put, List.setIfInBounds_toArray, List.set_cons_zero, List.set_cons_succ]
                  refine wpAnyH_take (i := 13) (oi := ({ dst := some 176, op := Op.load 31 (Operand.tmp 175), type := 31, pos := "law.go:297", after := #[{ on := 12, ground := Ground.data }, { on := 4, ground := Ground.guard }], guard := some (4, true) } : Oper)) (v := undef) rfl (by kernel_rfl) (by kernel_rfl) (by kernel_rfl) (fun _ _ _ h => h) (Or.inr ⟨by rfl, rfl⟩) T0 ?_
                  try simp only [Act.put, List.setIfInBounds_toArray, List.set_cons_zero, List.set_cons_succ]
                  refine wpAnyH_take (i := 14) (oi := ({ dst := some 177, op := Op.call { callee := Callee.value (Operand.func 23), args := #[Operand.tmp 168, Operand.tmp 172, Operand.tmp 176], argTypes := #[32, 31, 31] }, type := 4, pos := "law.go:297", after := #[{ on := 5, ground := Ground.data }, { on := 9, ground := Ground.data }, { on := 13, ground := Ground.data }, { on := 4, ground := Ground.chain }, { on := 4, ground := Ground.guard }], guard := some (4, true) } : Oper)) (v := undef) rfl (by kernel_rfl) (by kernel_rfl) (by kernel_rfl) (fun _ _ _ h => h) (Or.inr ⟨by rfl, rfl⟩) T0 ?_
                  try simp only [Act.put, List.setIfInBounds_toArray, List.set_cons_zero, List.set_cons_succ]
                  refine wpAnyH_take (i := 15) (oi := ({ dst := some 178, op := Op.move (Operand.tmp 11), type := 32, pos := "law.go:297", after := #[{ on := 4, ground := Ground.guard }], guard := some (4, true) } : Oper)) (v := undef) rfl (by kernel_rfl) (by kernel_rfl) (by kernel_rfl) (fun _ _ _ h => h) (Or.inr ⟨by rfl, rfl⟩) T0 ?_
                  try simp only [Act.put, List.setIfInBounds_toArray, List.set_cons_zero, List.set_cons_succ]
                  refine wpAnyH_take (i := 16) (oi := ({ dst := some 179, op := Op.move (Operand.tmp 19), type := 39, pos := "law.go:297", after := #[{ on := 4, ground := Ground.guard }], guard := some (4, true) } : Oper)) (v := undef) rfl (by kernel_rfl) (by kernel_rfl) (by kernel_rfl) (fun _ _ _ h => h) (Or.inr ⟨by rfl, rfl⟩) T0 ?_
                  try simp only [Act.put, List.setIfInBounds_toArray, List.set_cons_zero, List.set_cons_succ]
                  refine wpAnyH_take (i := 17) (oi := ({ dst := some 180, op := Op.move (Operand.tmp 20), type := 3, pos := "law.go:297", after := #[{ on := 4, ground := Ground.guard }], guard := some (4, true) } : Oper)) (v := undef) rfl (by kernel_rfl) (by kernel_rfl) (by kernel_rfl) (fun _ _ _ h => h) (Or.inr ⟨by rfl, rfl⟩) T0 ?_
                  try simp only [Act.put, List.setIfInBounds_toArray, List.set_cons_zero, List.set_cons_succ]
                  refine wpAnyH_take (i := 18) (oi := ({ dst := some 181, op := Op.indexAddr 39 (Operand.tmp 179) (Operand.tmp 180), type := 0, pos := "law.go:297", after := #[{ on := 16, ground := Ground.data }, { on := 17, ground := Ground.data }, { on := 4, ground := Ground.guard }], guard := some (4, true) } : Oper)) (v := undef) rfl (by kernel_rfl) (by kernel_rfl) (by kernel_rfl) (fun _ _ _ h => h) (Or.inr ⟨by rfl, rfl⟩) T0 ?_
                  try simp only [Act.put, List.setIfInBounds_toArray, List.set_cons_zero, List.set_cons_succ]
                  refine wpAnyH_take (i := 19) (oi := ({ dst := some 182, op := Op.load 31 (Operand.tmp 181), type := 31, pos := "law.go:297", after := #[{ on := 18, ground := Ground.data }, { on := 4, ground := Ground.guard }], guard := some (4, true) } : Oper)) (v := undef) rfl (by kernel_rfl) (by kernel_rfl) (by kernel_rfl) (fun _ _ _ h => h) (Or.inr ⟨by rfl, rfl⟩) T0 ?_
                  try simp only [Act.put, List.setIfInBounds_toArray, List.set_cons_zero, List.set_cons_succ]
                  refine wpAnyH_take (i := 20) (oi := ({ dst := some 183, op := Op.move (Operand.tmp 19), type := 39, pos := "law.go:297", after := #[{ on := 4, ground := Ground.guard }], guard := some (4, true) } : Oper)) (v := undef) rfl (by kernel_rfl) (by kernel_rfl) (by kernel_rfl) (fun _ _ _ h => h) (Or.inr ⟨by rfl, rfl⟩) T0 ?_
                  try simp only [Act.put, List.setIfInBounds_toArray, List.set_cons_zero, List.set_cons_succ]
                  refine wpAnyH_take (i := 21) (oi := ({ dst := some 184, op := Op.move (Operand.tmp 21), type := 3, pos := "law.go:297", after := #[{ on := 4, ground := Ground.guard }], guard := some (4, true) } : Oper)) (v := undef) rfl (by kernel_rfl) (by kernel_rfl) (by kernel_rfl) (fun _ _ _ h => h) (Or.inr ⟨by rfl, rfl⟩) T0 ?_
                  try simp only [Act.put, List.setIfInBounds_toArray, List.set_cons_zero, List.set_cons_succ]
                  refine wpAnyH_take (i := 22) (oi := ({ dst := some 185, op := Op.indexAddr 39 (Operand.tmp 183) (Operand.tmp 184), type := 0, pos := "law.go:297", after := #[{ on := 20, ground := Ground.data }, { on := 21, ground := Ground.data }, { on := 4, ground := Ground.guard }], guard := some (4, true) } : Oper)) (v := undef) rfl (by kernel_rfl) (by kernel_rfl) (by kernel_rfl) (fun _ _ _ h => h) (Or.inr ⟨by rfl, rfl⟩) T0 ?_
                  try simp only [Act.put, List.setIfInBounds_toArray, List.set_cons_zero, List.set_cons_succ]
                  refine wpAnyH_take (i := 23) (oi := ({ dst := some 186, op := Op.load 31 (Operand.tmp 185), type := 31, pos := "law.go:297", after := #[{ on := 22, ground := Ground.data }, { on := 4, ground := Ground.guard }], guard := some (4, true) } : Oper)) (v := undef) rfl (by kernel_rfl) (by kernel_rfl) (by kernel_rfl) (fun _ _ _ h => h) (Or.inr ⟨by rfl, rfl⟩) T0 ?_
                  try simp only [Act.put, List.setIfInBounds_toArray, List.set_cons_zero, List.set_cons_succ]
                  refine wpAnyH_take (i := 24) (oi := ({ dst := some 187, op := Op.call { callee := Callee.value (Operand.func 23), args := #[Operand.tmp 178, Operand.tmp 182, Operand.tmp 186], argTypes := #[32, 31, 31] }, type := 4, pos := "law.go:297", after := #[{ on := 15, ground := Ground.data }, { on := 19, ground := Ground.data }, { on := 23, ground := Ground.data }, { on := 14, ground := Ground.chain }, { on := 4, ground := Ground.guard }], guard := some (4, true) } : Oper)) (v := undef) rfl (by kernel_rfl) (by kernel_rfl) (by kernel_rfl) (fun _ _ _ h => h) (Or.inr ⟨by rfl, rfl⟩) T0 ?_
                  try simp only [Act.put, List.setIfInBounds_toArray, List.set_cons_zero, List.set_cons_succ]
                  refine wpAnyH_take (i := 25) (oi := ({ dst := some 188, op := Op.binOp BinOp.neq 4 (Operand.tmp 177) (Operand.tmp 187) 4, type := 4, pos := "law.go:297", after := #[{ on := 14, ground := Ground.data }, { on := 24, ground := Ground.data }, { on := 4, ground := Ground.guard }], guard := some (4, true) } : Oper)) (v := undef) rfl (by kernel_rfl) (by kernel_rfl) (by kernel_rfl) (fun _ _ _ h => h) (Or.inr ⟨by rfl, rfl⟩) T0 ?_
                  try simp only [Act.put, List.setIfInBounds_toArray, List.set_cons_zero, List.set_cons_succ]
                  refine wpAnyH_take (i := 26) (oi := ({ dst := some 189, op := Op.pick (Operand.tmp 167) (Operand.tmp 188) (Operand.const (Value.bool false)), type := 4, pos := "law.go:297", after := #[{ on := 4, ground := Ground.data }, { on := 25, ground := Ground.data }], guard := none } : Oper)) (v := ?av38) rfl (by kernel_rfl) (by kernel_rfl) (by kernel_rfl) (fun _ _ _ h => h) (Or.inl ⟨by rfl, ?ay38⟩) T0 ?_
                  case ay38 => (intro V hSw; go_simp; try with_reducible rfl)
                  try simp only [Act.put, List.setIfInBounds_toArray, List.set_cons_zero, List.set_cons_succ]
                  refine wpAnyH_done (by kernel_rfl) ?_ _
                  try go_wp2
                  go_meet
                  case rel => exact ⟨rfl, T0⟩
                | true =>
                  cases b2 with
                  | false =>
                    have T0 := (Below.refl W28.heap.size W28).drew
                    refine wp_region_held_drew (S := fun V => Below W28.heap.size W28 V) (by kernel_rfl) T0 (fun hS0 => ?_)
                    refine wpAnyH_take (i := 0) (oi := ({ dst := some 163, op := Op.move (Operand.tmp 23), type := 4, pos := "law.go:297", after := #[], guard := none } : Oper)) (v := ?av28) rfl (by kernel_rfl) (by kernel_rfl) (by kernel_rfl) (fun _ _ _ h => h) (Or.inl ⟨by rfl, ?ay28⟩) T0 ?_
                    case ay28 => (intro V hSw; go_simp; try with_reducible rfl)
                    try simp only [Act.put, List.setIfInBounds_toArray, List.set_cons_zero, List.set_cons_succ]
                    refine wpAnyH_take (i := 1) (oi := ({ dst := some 164, op := Op.move (Operand.tmp 163), type := 4, pos := "law.go:297", after := #[{ on := 0, ground := Ground.data }], guard := none } : Oper)) (v := ?av29) rfl (by kernel_rfl) (by kernel_rfl) (by kernel_rfl) (fun _ _ _ h => h) (Or.inl ⟨by rfl, ?ay29⟩) T0 ?_
                    case ay29 => (intro V hSw; go_simp; try with_reducible rfl)
                    try simp only [Act.put, List.setIfInBounds_toArray, List.set_cons_zero, List.set_cons_succ]
                    refine wpAnyH_take (i := 2) (oi := ({ dst := some 165, op := Op.move (Operand.tmp 25), type := 4, pos := "law.go:297", after := #[{ on := 1, ground := Ground.guard }], guard := some (1, true) } : Oper)) (v := ?av30) rfl (by kernel_rfl) (by kernel_rfl) (by kernel_rfl) (fun _ _ _ h => h) (Or.inl ⟨by rfl, ?ay30⟩) T0 ?_
                    case ay30 => (intro V hSw; go_simp; try with_reducible rfl)
                    try simp only [Act.put, List.setIfInBounds_toArray, List.set_cons_zero, List.set_cons_succ]
                    refine wpAnyH_take (i := 3) (oi := ({ dst := some 166, op := Op.pick (Operand.tmp 164) (Operand.tmp 165) (Operand.const (Value.bool false)), type := 4, pos := "law.go:297", after := #[{ on := 1, ground := Ground.data }, { on := 2, ground := Ground.data }], guard := none } : Oper)) (v := ?av31) rfl (by kernel_rfl) (by kernel_rfl) (by kernel_rfl) (fun _ _ _ h => h) (Or.inl ⟨by rfl, ?ay31⟩) T0 ?_
                    case ay31 => (intro V hSw; go_simp; try with_reducible rfl)
                    try simp only [Act.put, List.setIfInBounds_toArray, List.set_cons_zero, List.set_cons_succ]
                    refine wpAnyH_take (i := 4) (oi := ({ dst := some 167, op := Op.move (Operand.tmp 166), type := 4, pos := "law.go:297", after := #[{ on := 3, ground := Ground.data }, { on := 1, ground := Ground.chain }], guard := none } : Oper)) (v := ?av32) rfl (by kernel_rfl) (by kernel_rfl) (by kernel_rfl) (fun _ _ _ h => h) (Or.inl ⟨by rfl, ?ay32⟩) T0 ?_
                    case ay32 => (intro V hSw; go_simp; try with_reducible rfl)
                    try simp only [Act.put, List.setIfInBounds_toArray, List.set_cons_zero, List.set_cons_succ]
                    refine wpAnyH_take (i := 5) (oi := ({ dst := some 168, op := Op.move (Operand.tmp 8), type := 32, pos := "law.go:297", after := #[{ on := 4, ground := Ground.guard }], guard := some (4, true) } : Oper)) (v := undef) rfl (by kernel_rfl) (by kernel_rfl) (by kernel_rfl) (fun _ _ _ h => h) (Or.inr ⟨by rfl, rfl⟩) T0 ?_
                    try simp only [Act.put, List.setIfInBounds_toArray, List.set_cons_zero, List.set_cons_succ]
                    refine wpAnyH_take (i := 6) (oi := ({ dst := some 169, op := Op.move (Operand.tmp 19), type := 39, pos := "law.go:297", after := #[{ on := 4, ground := Ground.guard }], guard := some (4, true) } : Oper)) (v := undef) rfl (by kernel_rfl) (by kernel_rfl) (by kernel_rfl) (fun _ _ _ h => h) (Or.inr ⟨by rfl, rfl⟩) T0 ?_
                    try simp only [Act.put, List.setIfInBounds_toArray, List.set_cons_zero, List.set_cons_succ]
                    refine wpAnyH_take (i := 7) (oi := ({ dst := some 170, op := Op.move (Operand.tmp 20), type := 3, pos := "law.go:297", after := #[{ on := 4, ground := Ground.guard }], guard := some (4, true) } : Oper)) (v := undef) rfl (by kernel_rfl) (by kernel_rfl) (by kernel_rfl) (fun _ _ _ h => h) (Or.inr ⟨by rfl, rfl⟩) T0 ?_
                    try simp only [Act.put, List.setIfInBounds_toArray, List.set_cons_zero, List.set_cons_succ]
                    refine wpAnyH_take (i := 8) (oi := ({ dst := some 171, op := Op.indexAddr 39 (Operand.tmp 169) (Operand.tmp 170), type := 0, pos := "law.go:297", after := #[{ on := 6, ground := Ground.data }, { on := 7, ground := Ground.data }, { on := 4, ground := Ground.guard }], guard := some (4, true) } : Oper)) (v := undef) rfl (by kernel_rfl) (by kernel_rfl) (by kernel_rfl) (fun _ _ _ h => h) (Or.inr ⟨by rfl, rfl⟩) T0 ?_
                    try simp only [Act.put, List.setIfInBounds_toArray, List.set_cons_zero, List.set_cons_succ]
                    refine wpAnyH_take (i := 9) (oi := ({ dst := some 172, op := Op.load 31 (Operand.tmp 171), type := 31, pos := "law.go:297", after := #[{ on := 8, ground := Ground.data }, { on := 4, ground := Ground.guard }], guard := some (4, true) } : Oper)) (v := undef) rfl (by kernel_rfl) (by kernel_rfl) (by kernel_rfl) (fun _ _ _ h => h) (Or.inr ⟨by rfl, rfl⟩) T0 ?_
                    try simp only [Act.put, List.setIfInBounds_toArray, List.set_cons_zero, List.set_cons_succ]
                    refine wpAnyH_take (i := 10) (oi := ({ dst := some 173, op := Op.move (Operand.tmp 19), type := 39, pos := "law.go:297", after := #[{ on := 4, ground := Ground.guard }], guard := some (4, true) } : Oper)) (v := undef) rfl (by kernel_rfl) (by kernel_rfl) (by kernel_rfl) (fun _ _ _ h => h) (Or.inr ⟨by rfl, rfl⟩) T0 ?_
                    try simp only [Act.put, List.setIfInBounds_toArray, List.set_cons_zero, List.set_cons_succ]
                    refine wpAnyH_take (i := 11) (oi := ({ dst := some 174, op := Op.move (Operand.tmp 21), type := 3, pos := "law.go:297", after := #[{ on := 4, ground := Ground.guard }], guard := some (4, true) } : Oper)) (v := undef) rfl (by kernel_rfl) (by kernel_rfl) (by kernel_rfl) (fun _ _ _ h => h) (Or.inr ⟨by rfl, rfl⟩) T0 ?_
                    try simp only [Act.put, List.setIfInBounds_toArray, List.set_cons_zero, List.set_cons_succ]
                    refine wpAnyH_take (i := 12) (oi := ({ dst := some 175, op := Op.indexAddr 39 (Operand.tmp 173) (Operand.tmp 174), type := 0, pos := "law.go:297", after := #[{ on := 10, ground := Ground.data }, { on := 11, ground := Ground.data }, { on := 4, ground := Ground.guard }], guard := some (4, true) } : Oper)) (v := undef) rfl (by kernel_rfl) (by kernel_rfl) (by kernel_rfl) (fun _ _ _ h => h) (Or.inr ⟨by rfl, rfl⟩) T0 ?_
                    try simp only [Act.put, List.setIfInBounds_toArray, List.set_cons_zero, List.set_cons_succ]
                    refine wpAnyH_take (i := 13) (oi := ({ dst := some 176, op := Op.load 31 (Operand.tmp 175), type := 31, pos := "law.go:297", after := #[{ on := 12, ground := Ground.data }, { on := 4, ground := Ground.guard }], guard := some (4, true) } : Oper)) (v := undef) rfl (by kernel_rfl) (by kernel_rfl) (by kernel_rfl) (fun _ _ _ h => h) (Or.inr ⟨by rfl, rfl⟩) T0 ?_
                    try simp only [Act.put, List.setIfInBounds_toArray, List.set_cons_zero, List.set_cons_succ]
                    refine wpAnyH_take (i := 14) (oi := ({ dst := some 177, op := Op.call { callee := Callee.value (Operand.func 23), args := #[Operand.tmp 168, Operand.tmp 172, Operand.tmp 176], argTypes := #[32, 31, 31] }, type := 4, pos := "law.go:297", after := #[{ on := 5, ground := Ground.data }, { on := 9, ground := Ground.data }, { on := 13, ground := Ground.data }, { on := 4, ground := Ground.chain }, { on := 4, ground := Ground.guard }], guard := some (4, true) } : Oper)) (v := undef) rfl (by kernel_rfl) (by kernel_rfl) (by kernel_rfl) (fun _ _ _ h => h) (Or.inr ⟨by rfl, rfl⟩) T0 ?_
                    try simp only [Act.put, List.setIfInBounds_toArray, List.set_cons_zero, List.set_cons_succ]
                    refine wpAnyH_take (i := 15) (oi := ({ dst := some 178, op := Op.move (Operand.tmp 11), type := 32, pos := "law.go:297", after := #[{ on := 4, ground := Ground.guard }], guard := some (4, true) } : Oper)) (v := undef) rfl (by kernel_rfl) (by kernel_rfl) (by kernel_rfl) (fun _ _ _ h => h) (Or.inr ⟨by rfl, rfl⟩) T0 ?_
                    try simp only [Act.put, List.setIfInBounds_toArray, List.set_cons_zero, List.set_cons_succ]
                    refine wpAnyH_take (i := 16) (oi := ({ dst := some 179, op := Op.move (Operand.tmp 19), type := 39, pos := "law.go:297", after := #[{ on := 4, ground := Ground.guard }], guard := some (4, true) } : Oper)) (v := undef) rfl (by kernel_rfl) (by kernel_rfl) (by kernel_rfl) (fun _ _ _ h => h) (Or.inr ⟨by rfl, rfl⟩) T0 ?_
                    try simp only [Act.put, List.setIfInBounds_toArray, List.set_cons_zero, List.set_cons_succ]
                    refine wpAnyH_take (i := 17) (oi := ({ dst := some 180, op := Op.move (Operand.tmp 20), type := 3, pos := "law.go:297", after := #[{ on := 4, ground := Ground.guard }], guard := some (4, true) } : Oper)) (v := undef) rfl (by kernel_rfl) (by kernel_rfl) (by kernel_rfl) (fun _ _ _ h => h) (Or.inr ⟨by rfl, rfl⟩) T0 ?_
                    try simp only [Act.put, List.setIfInBounds_toArray, List.set_cons_zero, List.set_cons_succ]
                    refine wpAnyH_take (i := 18) (oi := ({ dst := some 181, op := Op.indexAddr 39 (Operand.tmp 179) (Operand.tmp 180), type := 0, pos := "law.go:297", after := #[{ on := 16, ground := Ground.data }, { on := 17, ground := Ground.data }, { on := 4, ground := Ground.guard }], guard := some (4, true) } : Oper)) (v := undef) rfl (by kernel_rfl) (by kernel_rfl) (by kernel_rfl) (fun _ _ _ h => h) (Or.inr ⟨by rfl, rfl⟩) T0 ?_
                    try simp only [Act.put, List.setIfInBounds_toArray, List.set_cons_zero, List.set_cons_succ]
                    refine wpAnyH_take (i := 19) (oi := ({ dst := some 182, op := Op.load 31 (Operand.tmp 181), type := 31, pos := "law.go:297", after := #[{ on := 18, ground := Ground.data }, { on := 4, ground := Ground.guard }], guard := some (4, true) } : Oper)) (v := undef) rfl (by kernel_rfl) (by kernel_rfl) (by kernel_rfl) (fun _ _ _ h => h) (Or.inr ⟨by rfl, rfl⟩) T0 ?_
                    try simp only [Act.put, List.setIfInBounds_toArray, List.set_cons_zero, List.set_cons_succ]
                    refine wpAnyH_take (i := 20) (oi := ({ dst := some 183, op := Op.move (Operand.tmp 19), type := 39, pos := "law.go:297", after := #[{ on := 4, ground := Ground.guard }], guard := some (4, true) } : Oper)) (v := undef) rfl (by kernel_rfl) (by kernel_rfl) (by kernel_rfl) (fun _ _ _ h => h) (Or.inr ⟨by rfl, rfl⟩) T0 ?_
                    try simp only [Act.put, List.setIfInBounds_toArray, List.set_cons_zero, List.set_cons_succ]
                    refine wpAnyH_take (i := 21) (oi := ({ dst := some 184, op := Op.move (Operand.tmp 21), type := 3, pos := "law.go:297", after := #[{ on := 4, ground := Ground.guard }], guard := some (4, true) } : Oper)) (v := undef) rfl (by kernel_rfl) (by kernel_rfl) (by kernel_rfl) (fun _ _ _ h => h) (Or.inr ⟨by rfl, rfl⟩) T0 ?_
                    try simp only [Act.put, List.setIfInBounds_toArray, List.set_cons_zero, List.set_cons_succ]
                    refine wpAnyH_take (i := 22) (oi := ({ dst := some 185, op := Op.indexAddr 39 (Operand.tmp 183) (Operand.tmp 184), type := 0, pos := "law.go:297", after := #[{ on := 20, ground := Ground.data }, { on := 21, ground := Ground.data }, { on := 4, ground := Ground.guard }], guard := some (4, true) } : Oper)) (v := undef) rfl (by kernel_rfl) (by kernel_rfl) (by kernel_rfl) (fun _ _ _ h => h) (Or.inr ⟨by rfl, rfl⟩) T0 ?_
                    try simp only [Act.put, List.setIfInBounds_toArray, List.set_cons_zero, List.set_cons_succ]
                    refine wpAnyH_take (i := 23) (oi := ({ dst := some 186, op := Op.load 31 (Operand.tmp 185), type := 31, pos := "law.go:297", after := #[{ on := 22, ground := Ground.data }, { on := 4, ground := Ground.guard }], guard := some (4, true) } : Oper)) (v := undef) rfl (by kernel_rfl) (by kernel_rfl) (by kernel_rfl) (fun _ _ _ h => h) (Or.inr ⟨by rfl, rfl⟩) T0 ?_
                    try simp only [Act.put, List.setIfInBounds_toArray, List.set_cons_zero, List.set_cons_succ]
                    refine wpAnyH_take (i := 24) (oi := ({ dst := some 187, op := Op.call { callee := Callee.value (Operand.func 23), args := #[Operand.tmp 178, Operand.tmp 182, Operand.tmp 186], argTypes := #[32, 31, 31] }, type := 4, pos := "law.go:297", after := #[{ on := 15, ground := Ground.data }, { on := 19, ground := Ground.data }, { on := 23, ground := Ground.data }, { on := 14, ground := Ground.chain }, { on := 4, ground := Ground.guard }], guard := some (4, true) } : Oper)) (v := undef) rfl (by kernel_rfl) (by kernel_rfl) (by kernel_rfl) (fun _ _ _ h => h) (Or.inr ⟨by rfl, rfl⟩) T0 ?_
                    try simp only [Act.put, List.setIfInBounds_toArray, List.set_cons_zero, List.set_cons_succ]
                    refine wpAnyH_take (i := 25) (oi := ({ dst := some 188, op := Op.binOp BinOp.neq 4 (Operand.tmp 177) (Operand.tmp 187) 4, type := 4, pos := "law.go:297", after := #[{ on := 14, ground := Ground.data }, { on := 24, ground := Ground.data }, { on := 4, ground := Ground.guard }], guard := some (4, true) } : Oper)) (v := undef) rfl (by kernel_rfl) (by kernel_rfl) (by kernel_rfl) (fun _ _ _ h => h) (Or.inr ⟨by rfl, rfl⟩) T0 ?_
                    try simp only [Act.put, List.setIfInBounds_toArray, List.set_cons_zero, List.set_cons_succ]
                    refine wpAnyH_take (i := 26) (oi := ({ dst := some 189, op := Op.pick (Operand.tmp 167) (Operand.tmp 188) (Operand.const (Value.bool false)), type := 4, pos := "law.go:297", after := #[{ on := 4, ground := Ground.data }, { on := 25, ground := Ground.data }], guard := none } : Oper)) (v := ?av33) rfl (by kernel_rfl) (by kernel_rfl) (by kernel_rfl) (fun _ _ _ h => h) (Or.inl ⟨by rfl, ?ay33⟩) T0 ?_
                    case ay33 => (intro V hSw; go_simp; try with_reducible rfl)
                    try simp only [Act.put, List.setIfInBounds_toArray, List.set_cons_zero, List.set_cons_succ]
                    refine wpAnyH_done (by kernel_rfl) ?_ _
                    try go_wp2
                    go_meet
                    case rel => exact ⟨rfl, T0⟩
                  | true =>
                    have T0 := (Below.refl W28.heap.size W28).drew
                    refine wp_region_held_drew (S := fun V => Below W28.heap.size W28 V) (by kernel_rfl) T0 (fun hS0 => ?_)
                    refine wpAnyH_take (i := 0) (oi := ({ dst := some 163, op := Op.move (Operand.tmp 23), type := 4, pos := "law.go:297", after := #[], guard := none } : Oper)) (v := ?av1) rfl (by kernel_rfl) (by kernel_rfl) (by kernel_rfl) (fun _ _ _ h => h) (Or.inl ⟨by rfl, ?ay1⟩) T0 ?_
                    case ay1 => (intro V hSw; go_simp; try with_reducible rfl)
                    try simp only [Act.put, List.setIfInBounds_toArray, List.set_cons_zero, List.set_cons_succ]
                    refine wpAnyH_take (i := 1) (oi := ({ dst := some 164, op := Op.move (Operand.tmp 163), type := 4, pos := "law.go:297", after := #[{ on := 0, ground := Ground.data }], guard := none } : Oper)) (v := ?av2) rfl (by kernel_rfl) (by kernel_rfl) (by kernel_rfl) (fun _ _ _ h => h) (Or.inl ⟨by rfl, ?ay2⟩) T0 ?_
                    case ay2 => (intro V hSw; go_simp; try with_reducible rfl)
                    try simp only [Act.put, List.setIfInBounds_toArray, List.set_cons_zero, List.set_cons_succ]
                    refine wpAnyH_take (i := 2) (oi := ({ dst := some 165, op := Op.move (Operand.tmp 25), type := 4, pos := "law.go:297", after := #[{ on := 1, ground := Ground.guard }], guard := some (1, true) } : Oper)) (v := ?av3) rfl (by kernel_rfl) (by kernel_rfl) (by kernel_rfl) (fun _ _ _ h => h) (Or.inl ⟨by rfl, ?ay3⟩) T0 ?_
                    case ay3 => (intro V hSw; go_simp; try with_reducible rfl)
                    try simp only [Act.put, List.setIfInBounds_toArray, List.set_cons_zero, List.set_cons_succ]
                    refine wpAnyH_take (i := 3) (oi := ({ dst := some 166, op := Op.pick (Operand.tmp 164) (Operand.tmp 165) (Operand.const (Value.bool false)), type := 4, pos := "law.go:297", after := #[{ on := 1, ground := Ground.data }, { on := 2, ground := Ground.data }], guard := none } : Oper)) (v := ?av4) rfl (by kernel_rfl) (by kernel_rfl) (by kernel_rfl) (fun _ _ _ h => h) (Or.inl ⟨by rfl, ?ay4⟩) T0 ?_
                    case ay4 => (intro V hSw; go_simp; try with_reducible rfl)
                    try simp only [Act.put, List.setIfInBounds_toArray, List.set_cons_zero, List.set_cons_succ]
                    refine wpAnyH_take (i := 4) (oi := ({ dst := some 167, op := Op.move (Operand.tmp 166), type := 4, pos := "law.go:297", after := #[{ on := 3, ground := Ground.data }, { on := 1, ground := Ground.chain }], guard := none } : Oper)) (v := ?av5) rfl (by kernel_rfl) (by kernel_rfl) (by kernel_rfl) (fun _ _ _ h => h) (Or.inl ⟨by rfl, ?ay5⟩) T0 ?_
                    case ay5 => (intro V hSw; go_simp; try with_reducible rfl)
                    try simp only [Act.put, List.setIfInBounds_toArray, List.set_cons_zero, List.set_cons_succ]
                    refine wpAnyH_take (i := 5) (oi := ({ dst := some 168, op := Op.move (Operand.tmp 8), type := 32, pos := "law.go:297", after := #[{ on := 4, ground := Ground.guard }], guard := some (4, true) } : Oper)) (v := ?av6) rfl (by kernel_rfl) (by kernel_rfl) (by kernel_rfl) (fun _ _ _ h => h) (Or.inl ⟨by rfl, ?ay6⟩) T0 ?_
                    case ay6 => (intro V hSw; go_simp; try with_reducible rfl)
                    try simp only [Act.put, List.setIfInBounds_toArray, List.set_cons_zero, List.set_cons_succ]
                    refine wpAnyH_take (i := 6) (oi := ({ dst := some 169, op := Op.move (Operand.tmp 19), type := 39, pos := "law.go:297", after := #[{ on := 4, ground := Ground.guard }], guard := some (4, true) } : Oper)) (v := ?av7) rfl (by kernel_rfl) (by kernel_rfl) (by kernel_rfl) (fun _ _ _ h => h) (Or.inl ⟨by rfl, ?ay7⟩) T0 ?_
                    case ay7 => (intro V hSw; go_simp; try with_reducible rfl)
                    try simp only [Act.put, List.setIfInBounds_toArray, List.set_cons_zero, List.set_cons_succ]
                    refine wpAnyH_take (i := 7) (oi := ({ dst := some 170, op := Op.move (Operand.tmp 20), type := 3, pos := "law.go:297", after := #[{ on := 4, ground := Ground.guard }], guard := some (4, true) } : Oper)) (v := ?av8) rfl (by kernel_rfl) (by kernel_rfl) (by kernel_rfl) (fun _ _ _ h => h) (Or.inl ⟨by rfl, ?ay8⟩) T0 ?_
                    case ay8 => (intro V hSw; go_simp; try with_reducible rfl)
                    try simp only [Act.put, List.setIfInBounds_toArray, List.set_cons_zero, List.set_cons_succ]
                    refine wpAnyH_take (i := 8) (oi := ({ dst := some 171, op := Op.indexAddr 39 (Operand.tmp 169) (Operand.tmp 170), type := 0, pos := "law.go:297", after := #[{ on := 6, ground := Ground.data }, { on := 7, ground := Ground.data }, { on := 4, ground := Ground.guard }], guard := some (4, true) } : Oper)) (v := ?av9) rfl (by kernel_rfl) (by kernel_rfl) (by kernel_rfl) (fun _ _ _ h => h) (Or.inl ⟨by rfl, ?ay9⟩) T0 ?_
                    case ay9 => (intro V hSw; go_simp; try with_reducible rfl)
                    try simp only [Act.put, List.setIfInBounds_toArray, List.set_cons_zero, List.set_cons_succ]
                    refine wpAnyH_take (i := 9) (oi := ({ dst := some 172, op := Op.load 31 (Operand.tmp 171), type := 31, pos := "law.go:297", after := #[{ on := 8, ground := Ground.data }, { on := 4, ground := Ground.guard }], guard := some (4, true) } : Oper)) (v := ?av10) rfl (by kernel_rfl) (by kernel_rfl) (by kernel_rfl) (fun _ _ _ h => h) (Or.inl ⟨by rfl, ?ay10⟩) T0 ?_
                    case ay10 => (intro V hSw; have e1 := (hSw.cell (p := ⟨bt, ot + i * 2, none⟩) hbtw).trans ca0; have e2 := (hSw.cell (p := ⟨bt, ot + i * 2 + 1, none⟩) hbtw).trans ca1; go_simp; try with_reducible rfl)
                    try simp only [Act.put, List.setIfInBounds_toArray, List.set_cons_zero, List.set_cons_succ]
                    refine wpAnyH_take (i := 10) (oi := ({ dst := some 173, op := Op.move (Operand.tmp 19), type := 39, pos := "law.go:297", after := #[{ on := 4, ground := Ground.guard }], guard := some (4, true) } : Oper)) (v := ?av11) rfl (by kernel_rfl) (by kernel_rfl) (by kernel_rfl) (fun _ _ _ h => h) (Or.inl ⟨by rfl, ?ay11⟩) T0 ?_
                    case ay11 => (intro V hSw; go_simp; try with_reducible rfl)
                    try simp only [Act.put, List.setIfInBounds_toArray, List.set_cons_zero, List.set_cons_succ]
                    refine wpAnyH_take (i := 11) (oi := ({ dst := some 174, op := Op.move (Operand.tmp 21), type := 3, pos := "law.go:297", after := #[{ on := 4, ground := Ground.guard }], guard := some (4, true) } : Oper)) (v := ?av12) rfl (by kernel_rfl) (by kernel_rfl) (by kernel_rfl) (fun _ _ _ h => h) (Or.inl ⟨by rfl, ?ay12⟩) T0 ?_
                    case ay12 => (intro V hSw; go_simp; try with_reducible rfl)
                    try simp only [Act.put, List.setIfInBounds_toArray, List.set_cons_zero, List.set_cons_succ]
                    refine wpAnyH_take (i := 12) (oi := ({ dst := some 175, op := Op.indexAddr 39 (Operand.tmp 173) (Operand.tmp 174), type := 0, pos := "law.go:297", after := #[{ on := 10, ground := Ground.data }, { on := 11, ground := Ground.data }, { on := 4, ground := Ground.guard }], guard := some (4, true) } : Oper)) (v := ?av13) rfl (by kernel_rfl) (by kernel_rfl) (by kernel_rfl) (fun _ _ _ h => h) (Or.inl ⟨by rfl, ?ay13⟩) T0 ?_
                    case ay13 => (intro V hSw; go_simp; try with_reducible rfl)
                    try simp only [Act.put, List.setIfInBounds_toArray, List.set_cons_zero, List.set_cons_succ]
                    refine wpAnyH_take (i := 13) (oi := ({ dst := some 176, op := Op.load 31 (Operand.tmp 175), type := 31, pos := "law.go:297", after := #[{ on := 12, ground := Ground.data }, { on := 4, ground := Ground.guard }], guard := some (4, true) } : Oper)) (v := ?av14) rfl (by kernel_rfl) (by kernel_rfl) (by kernel_rfl) (fun _ _ _ h => h) (Or.inl ⟨by rfl, ?ay14⟩) T0 ?_
                    case ay14 => (intro V hSw; have e1 := (hSw.cell (p := ⟨bt, ot + k * 2, none⟩) hbtw).trans cb0; have e2 := (hSw.cell (p := ⟨bt, ot + k * 2 + 1, none⟩) hbtw).trans cb1; go_simp; try with_reducible rfl)
                    try simp only [Act.put, List.setIfInBounds_toArray, List.set_cons_zero, List.set_cons_succ]
                    refine wpAnyH_take (i := 15) (oi := ({ dst := some 178, op := Op.move (Operand.tmp 11), type := 32, pos := "law.go:297", after := #[{ on := 4, ground := Ground.guard }], guard := some (4, true) } : Oper)) (v := ?av15) rfl (by kernel_rfl) (by kernel_rfl) (by kernel_rfl) (fun _ _ _ h => h) (Or.inl ⟨by rfl, ?ay15⟩) T0 ?_
                    case ay15 => (intro V hSw; go_simp; try with_reducible rfl)
                    try simp only [Act.put, List.setIfInBounds_toArray, List.set_cons_zero, List.set_cons_succ]
                    refine wpAnyH_take (i := 16) (oi := ({ dst := some 179, op := Op.move (Operand.tmp 19), type := 39, pos := "law.go:297", after := #[{ on := 4, ground := Ground.guard }], guard := some (4, true) } : Oper)) (v := ?av16) rfl (by kernel_rfl) (by kernel_rfl) (by kernel_rfl) (fun _ _ _ h => h) (Or.inl ⟨by rfl, ?ay16⟩) T0 ?_
                    case ay16 => (intro V hSw; go_simp; try with_reducible rfl)
                    try simp only [Act.put, List.setIfInBounds_toArray, List.set_cons_zero, List.set_cons_succ]
                    refine wpAnyH_take (i := 17) (oi := ({ dst := some 180, op := Op.move (Operand.tmp 20), type := 3, pos := "law.go:297", after := #[{ on := 4, ground := Ground.guard }], guard := some (4, true) } : Oper)) (v := ?av17) rfl (by kernel_rfl) (by kernel_rfl) (by kernel_rfl) (fun _ _ _ h => h) (Or.inl ⟨by rfl, ?ay17⟩) T0 ?_
                    case ay17 => (intro V hSw; go_simp; try with_reducible rfl)
                    try simp only [Act.put, List.setIfInBounds_toArray, List.set_cons_zero, List.set_cons_succ]
                    refine wpAnyH_take (i := 18) (oi := ({ dst := some 181, op := Op.indexAddr 39 (Operand.tmp 179) (Operand.tmp 180), type := 0, pos := "law.go:297", after := #[{ on := 16, ground := Ground.data }, { on := 17, ground := Ground.data }, { on := 4, ground := Ground.guard }], guard := some (4, true) } : Oper)) (v := ?av18) rfl (by kernel_rfl) (by kernel_rfl) (by kernel_rfl) (fun _ _ _ h => h) (Or.inl ⟨by rfl, ?ay18⟩) T0 ?_
                    case ay18 => (intro V hSw; go_simp; try with_reducible rfl)
                    try simp only [Act.put, List.setIfInBounds_toArray, List.set_cons_zero, List.set_cons_succ]
                    refine wpAnyH_take (i := 19) (oi := ({ dst := some 182, op := Op.load 31 (Operand.tmp 181), type := 31, pos := "law.go:297", after := #[{ on := 18, ground := Ground.data }, { on := 4, ground := Ground.guard }], guard := some (4, true) } : Oper)) (v := ?av19) rfl (by kernel_rfl) (by kernel_rfl) (by kernel_rfl) (fun _ _ _ h => h) (Or.inl ⟨by rfl, ?ay19⟩) T0 ?_
                    case ay19 => (intro V hSw; have e1 := (hSw.cell (p := ⟨bt, ot + i * 2, none⟩) hbtw).trans ca0; have e2 := (hSw.cell (p := ⟨bt, ot + i * 2 + 1, none⟩) hbtw).trans ca1; go_simp; try with_reducible rfl)
                    try simp only [Act.put, List.setIfInBounds_toArray, List.set_cons_zero, List.set_cons_succ]
                    refine wpAnyH_take (i := 20) (oi := ({ dst := some 183, op := Op.move (Operand.tmp 19), type := 39, pos := "law.go:297", after := #[{ on := 4, ground := Ground.guard }], guard := some (4, true) } : Oper)) (v := ?av20) rfl (by kernel_rfl) (by kernel_rfl) (by kernel_rfl) (fun _ _ _ h => h) (Or.inl ⟨by rfl, ?ay20⟩) T0 ?_
                    case ay20 => (intro V hSw; go_simp; try with_reducible rfl)
                    try simp only [Act.put, List.setIfInBounds_toArray, List.set_cons_zero, List.set_cons_succ]
                    refine wpAnyH_take (i := 21) (oi := ({ dst := some 184, op := Op.move (Operand.tmp 21), type := 3, pos := "law.go:297", after := #[{ on := 4, ground := Ground.guard }], guard := some (4, true) } : Oper)) (v := ?av21) rfl (by kernel_rfl) (by kernel_rfl) (by kernel_rfl) (fun _ _ _ h => h) (Or.inl ⟨by rfl, ?ay21⟩) T0 ?_
                    case ay21 => (intro V hSw; go_simp; try with_reducible rfl)
                    try simp only [Act.put, List.setIfInBounds_toArray, List.set_cons_zero, List.set_cons_succ]
                    refine wpAnyH_take (i := 22) (oi := ({ dst := some 185, op := Op.indexAddr 39 (Operand.tmp 183) (Operand.tmp 184), type := 0, pos := "law.go:297", after := #[{ on := 20, ground := Ground.data }, { on := 21, ground := Ground.data }, { on := 4, ground := Ground.guard }], guard := some (4, true) } : Oper)) (v := ?av22) rfl (by kernel_rfl) (by kernel_rfl) (by kernel_rfl) (fun _ _ _ h => h) (Or.inl ⟨by rfl, ?ay22⟩) T0 ?_
                    case ay22 => (intro V hSw; go_simp; try with_reducible rfl)
                    try simp only [Act.put, List.setIfInBounds_toArray, List.set_cons_zero, List.set_cons_succ]
                    refine wpAnyH_take (i := 23) (oi := ({ dst := some 186, op := Op.load 31 (Operand.tmp 185), type := 31, pos := "law.go:297", after := #[{ on := 22, ground := Ground.data }, { on := 4, ground := Ground.guard }], guard := some (4, true) } : Oper)) (v := ?av23) rfl (by kernel_rfl) (by kernel_rfl) (by kernel_rfl) (fun _ _ _ h => h) (Or.inl ⟨by rfl, ?ay23⟩) T0 ?_
                    case ay23 => (intro V hSw; have e1 := (hSw.cell (p := ⟨bt, ot + k * 2, none⟩) hbtw).trans cb0; have e2 := (hSw.cell (p := ⟨bt, ot + k * 2 + 1, none⟩) hbtw).trans cb1; go_simp; try with_reducible rfl)
                    try simp only [Act.put, List.setIfInBounds_toArray, List.set_cons_zero, List.set_cons_succ]
                    refine wpAnyH_ready (rs := [14]) (by kernel_rfl) (by simp) ?_
                    refine (AllReadyH.cons (o := _) rfl (fun K hK => ?_) AllReadyH.nil)
                    go_simp
                    go_at_call 23
                    refine (Sub_any (HT.out.below ((HU.out.trans (T0.mono HU.out.size)).mono HT.out.hB)) (by exact hz1) (by exact hz2)).mono ?_
                    rintro e W24 ⟨r1, rfl, hr1, hb24⟩
                    have HR1 := Lib.hid hr1
                    have T24 := T0.trans (hb24.mono T0.size)
                    clear hr1
                    try go_wp2_with fail
                    refine hK.out _ _ T24 (fun hS24 => ?_)
                    clear hK K
                    try simp only [Act.put, List.setIfInBounds_toArray, List.set_cons_zero, List.set_cons_succ]
                    refine wpAnyH_ready (rs := [24]) (by kernel_rfl) (by simp) ?_
                    refine (AllReadyH.cons (o := _) rfl (fun K hK => ?_) AllReadyH.nil)
                    go_simp
                    go_at_call 23
                    refine (Sub_any (HT2.out.below ((HU.out.trans (T24.mono HU.out.size)).mono HT2.out.hB)) (by exact hz1) (by exact hz2)).mono ?_
                    rintro e W25 ⟨r2, rfl, hr2, hb25⟩
                    obtain rfl : r1 = r2 := by rw [Bool.eq_iff_iff, HR1.out, hr2]; exact sub_open HG.out HO2.out (HB1.out.1 (by first | rfl | trivial)) (HB2.out.1 (by first | rfl | trivial))
                    have T25 := T24.trans (hb25.mono T24.size)
                    clear hr2
                    try go_wp2_with fail
                    refine hK.out _ _ T25 (fun hS25 => ?_)
                    clear hK K
                    try simp only [Act.put, List.setIfInBounds_toArray, List.set_cons_zero, List.set_cons_succ]
                    refine wpAnyH_take (i := 25) (oi := ({ dst := some 188, op := Op.binOp BinOp.neq 4 (Operand.tmp 177) (Operand.tmp 187) 4, type := 4, pos := "law.go:297", after := #[{ on := 14, ground := Ground.data }, { on := 24, ground := Ground.data }, { on := 4, ground := Ground.guard }], guard := some (4, true) } : Oper)) (v := ?av26) rfl (by kernel_rfl) (by kernel_rfl) (by kernel_rfl) (fun _ _ _ h => h) (Or.inl ⟨by rfl, ?ay26⟩) T25 ?_
                    case ay26 => (intro V hSw; go_simp; try with_reducible rfl)
                    try simp only [Act.put, List.setIfInBounds_toArray, List.set_cons_zero, List.set_cons_succ]
                    refine wpAnyH_take (i := 26) (oi := ({ dst := some 189, op := Op.pick (Operand.tmp 167) (Operand.tmp 188) (Operand.const (Value.bool false)), type := 4, pos := "law.go:297", after := #[{ on := 4, ground := Ground.data }, { on := 25, ground := Ground.data }], guard := none } : Oper)) (v := ?av27) rfl (by kernel_rfl) (by kernel_rfl) (by kernel_rfl) (fun _ _ _ h => h) (Or.inl ⟨by rfl, ?ay27⟩) T25 ?_
                    case ay27 => (intro V hSw; go_simp; try with_reducible rfl)
                    try simp only [Act.put, List.setIfInBounds_toArray, List.set_cons_zero, List.set_cons_succ]
                    refine wpAnyH_done (by kernel_rfl) ?_ _
                    try go_wp2
                    go_meet
                    case rel => exact ⟨rfl, T25⟩
              obtain ⟨rfl, hb⟩ := hcut
              have HBN := Lib.hid (HBM.out.trans (hb.mono HBM.out.size))
              clear hb hbtw ca0 ca1 cb0 cb1 HU
              go_wp2
              go_roundg (gk - 1)
              case measure => exact hg3
              case rel => exact ⟨k + 1, by go_num, by omega, HBN.out⟩
            · have hkq2 : q ≤ k := by omega
              clear hkq
              go_wp2
              go_roundg (g1 - 1)
              case measure => exact hg2
              case rel => exact ⟨i + 1, by go_num, by omega, HBK.out⟩
        · have hiq2 : q ≤ i := by omega
          have BZ := Lib.hid (BW.out.trans ((HX.out.trans (HB.out.mono HX.out.size)).mono BW.out.size))
          clear hiq
          go_wp2
          go_ret
          exact ⟨rfl, BZ.out⟩
end Go.Proofs.YtmaknddlgppinaaGreatDoor
