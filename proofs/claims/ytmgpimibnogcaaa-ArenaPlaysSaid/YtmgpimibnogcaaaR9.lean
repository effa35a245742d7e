/-
  WALK of ArenaPlays.
-/
import Derived.Test.YtmgpimibnogcaaaR8
set_option linter.unusedVariables false
set_option linter.unusedSimpArgs false
namespace Go.Proofs.Ytmgpimibnogcaaa
open Go.RowKit

set_option maxRecDepth 1000000 in
set_option maxHeartbeats 3200000 in
theorem new_bad (n : Int) (w : World) (hn : n < 16 ∨ 1048576 < n) : Calls Try.prog 10 #[.int .i64 n] w fun e w' => e = .returned (.tuple #[.pointer none, .int .i64 1]) ∧ w' = w := by
  by_cases h : n < 16
  · go_enter Try.func10, Try.ntmps10
    go_wp2
    go_ret2
    exact ⟨rfl, rfl⟩
  · have h1 : (n < 16) = False := eq_false h
    have h2 : 1048576 < n := by omega
    clear hn h
    go_enter Try.func10, Try.ntmps10
    go_wp2
    go_ret2
    exact ⟨rfl, rfl⟩
set_option maxRecDepth 1000000 in
set_option maxHeartbeats 3200000 in
theorem rnew_bad (n : Int) (w : World) (hn : n < 16 ∨ 1048576 < n) : Calls Try.prog 11 #[.int .i64 n] w fun e w' => e = .returned (.pointer none) ∧ w' = w := by
  by_cases h : n < 16
  · go_enter Try.func11, Try.ntmps11
    go_wp2
    go_ret
    exact ⟨rfl, rfl⟩
  · have h1 : (n < 16) = False := eq_false h
    have h2 : 1048576 < n := by omega
    clear hn h
    go_enter Try.func11, Try.ntmps11
    go_wp2
    go_ret
    exact ⟨rfl, rfl⟩
set_option maxRecDepth 1000000 in
set_option maxHeartbeats 25600000 in
theorem plays_walk (x : Int) (ops : List Op) (v : Value) (W : World) (hx : InI x) (hr : ORow W.heap.size W v ops) :
    Calls Try.prog 3 #[.int .i64 x, v] W fun e w' => e = .returned (.bool true) ∧ Below W.heap.size W w' := by
  obtain ⟨A, cap, rfl, _, hm⟩ := hr.form
  unfold maxLen at hm
  have HR := Lib.hid hr
  obtain ⟨m, hmm⟩ : ∃ m, ops.length = m := ⟨_, rfl⟩
  rw [hmm] at hm HR ⊢
  have HMM := Lib.hid hmm
  clear hr hmm hx
  by_cases hbad : x < 16 ∨ 1048576 < x
  · have H1 := Lib.hid (fun W => new_bad x W hbad)
    have H2 := Lib.hid (fun W => rnew_bad x W hbad)
    have HB := Lib.hid hbad
    by_cases h3 : 3000 < x
    · have h4 : (x ≤ 1048576) = False := eq_false (by omega)
      clear hbad
      go_enter Try.func3, Try.ntmps3
      go_wp2_with fail
      refine (shown_any W).mono ?_
      rintro e w1 ⟨rfl, hb1⟩
      have B1 := Lib.hid hb1
      clear hb1
      go_wp2_with fail
      refine (H1.out w1).mono ?_
      rintro e w' ⟨rfl, rfl⟩
      go_wp2_with fail
      refine (H2.out _).mono ?_
      rintro e w' ⟨rfl, rfl⟩
      go_wp2
      go_ret
      exact ⟨rfl, B1.out⟩
    · have h3f : ((3000 : Int) < x) = False := eq_false h3
      clear hbad
      go_enter Try.func3, Try.ntmps3
      go_wp2_with fail
      refine (shown_any W).mono ?_
      rintro e w1 ⟨rfl, hb1⟩
      have B1 := Lib.hid hb1
      clear hb1
      go_wp2_with fail
      refine (H1.out w1).mono ?_
      rintro e w' ⟨rfl, rfl⟩
      go_wp2_with fail
      refine (H2.out _).mono ?_
      rintro e w' ⟨rfl, rfl⟩
      go_wp2
      go_ret
      exact ⟨rfl, B1.out⟩
  · obtain ⟨n, rfl⟩ : ∃ n : Nat, x = n := ⟨x.toNat, by omega⟩
    have hn16 : 16 ≤ n := by omega
    have hnM : n ≤ 1048576 := by omega
    have hnMi : (n : Int) ≤ 1048576 := by omega
    clear hbad
    by_cases h3 : 3000 < n
    · have h3i : (3000 : Int) < (n : Int) := by omega
      obtain ⟨N, hNe⟩ : ∃ N : Nat, N = 3000 := ⟨_, rfl⟩
      have hN16 : 16 ≤ N := by omega
      have hN3 : N ≤ 3000 := by omega
      go_enter Try.func3, Try.ntmps3
      go_wp2_with fail
      refine (shown_any W).mono ?_
      rintro e w1 ⟨rfl, hb1⟩
      have B1 := Lib.hid hb1
      clear hb1
      go_wp2_with fail
      refine (new_any 3000 w1 (by decide) (by decide)).mono ?_
      rintro e w2 ⟨q, p, b, rfl, ha, hq, hb⟩
      rw [← hNe] at ha
      have A1 := Lib.hid ha
      have HQ := Lib.hid hq
      have B2' := Lib.hid (B1.out.trans (hb.mono B1.out.size))
      have HLT := Lib.hid ha.lt
      clear ha hq hb
      go_wp2_with fail
      refine (rnew_any 3000 w2 (by decide) (by decide)).mono ?_
      rintro e w3 ⟨r, rp, rfl, hr, hq2, hb⟩
      rw [← hNe] at hr
      have AA := Lib.hid (A1.out.below hb)
      have RR := Lib.hid hr
      have B2 := Lib.hid (B2'.out.trans (hb.mono B2'.out.size))
      have HNE := Lib.hid (show (r ≠ q ∧ r ≠ p ∧ r ≠ b) ∧ rp ≠ q ∧ rp ≠ p ∧ rp ≠ b by have := HLT.out; omega)
      have QQ := Lib.hid (show W.heap.size ≤ q ∧ W.heap.size ≤ p ∧ W.heap.size ≤ b ∧ W.heap.size ≤ rp by have := HQ.out; have := B1.out.size; have := B2'.out.size; omega)
      clear hr hq2 hb A1 HQ B2' HLT B1
      have A2 := Lib.hid (show Two q p b r rp [freeBk (N - 1)] w3 from ⟨AA.out, RR.out⟩)
      have L2 := Lib.hid (show 1 + len [freeBk (N - 1)] = N by rw [len_cons, len_nil, freeBk_sz (by omega)]; omega)
      clear AA RR
      go_wp2
      go_loopg [9] 150 (fun g iv wx => ∃ (k : Nat) (Bs : List Blk), iv = .int .i64 (k : Int) ∧ k + g = 150 ∧ Two q p b r rp Bs wx ∧ 1 + len Bs = N ∧ Below W.heap.size W wx)
      case atStart => exact ⟨0, _, rfl, rfl, A2.out, L2.out, B2.out⟩
      case round =>
        obtain ⟨k, Bs, rfl, hkg, ha, hl, hb⟩ := hrel
        have TR := Lib.hid ha
        have BR := Lib.hid hb
        have LR := Lib.hid hl
        clear ha hb hl A2 B2 L2
        by_cases hk : k < m ∧ k < 150
        · obtain ⟨hk1, hk2⟩ := hk
          have hk1i : (k : Int) < (m : Int) := by omega
          have hk2i : (k : Int) < 150 := by omega
          have hgg : gk - 1 < gk := by omega
          obtain ⟨o, ho⟩ : ∃ o, ops[k]? = some o := ⟨_, List.getElem?_eq_getElem (by rw [HMM.out]; exact hk1)⟩
          obtain ⟨hok, bo, oo, rfl, hbo, c0, c1, c2, c3, c4⟩ := (HR.out.below BR.out (Nat.le_refl _)).at_ ho
          have HOK := Lib.hid hok
          have hbs : bo < wr.heap.size := Nat.lt_of_lt_of_le hbo BR.out.size
          have HO0 := Lib.hid (heap_new wr (.cells #[.int .i64 o.k, .int .i64 o.a, .int .i64 o.b, .int .i64 o.c, .bool o.f] 31))
          have HB0 := Lib.hid ((Below.refl wr.heap.size wr).alloc (Nat.le_refl _) (.cells #[.int .i64 o.k, .int .i64 o.a, .int .i64 o.b, .int .i64 o.c, .bool o.f] 31))
          clear hok ho
          go_wp2_with fail
          clear c0 c1 c2 c3 c4 hbs
          generalize wr.alloc (.cells #[.int .i64 o.k, .int .i64 o.a, .int .i64 o.b, .int .i64 o.c, .bool o.f] 31) = w0 at *
          have T0 := Lib.hid (TR.out.below HB0.out)
          have B0 := Lib.hid (BR.out.trans (HB0.out.mono BR.out.size))
          have hgt := TR.out.ar.lt
          have hgr := TR.out.rm.lt
          have HGO := Lib.hid (show wr.heap.size ≠ q ∧ wr.heap.size ≠ p ∧ wr.heap.size ≠ b ∧ wr.heap.size ≠ r ∧ wr.heap.size ≠ rp ∧ W.heap.size ≤ wr.heap.size by have := BR.out.size; omega)
          clear TR BR HB0 hgt hgr
          generalize wr.heap.size = go at *
          refine (rusedl_any r rp Bs _ T0.out.ar.1 T0.out.rm).mono ?_
          rintro e w4 ⟨lv, rfl, hol, hbl⟩
          obtain ⟨la, lc, rfl⟩ := hol.form
          have OL := Lib.hid hol
          have T2 := Lib.hid (T0.out.below hbl)
          have B2 := Lib.hid (B0.out.trans (hbl.mono B0.out.size))
          have h3 := (hbl.block go (lt_of_block HO0.out)).trans HO0.out
          have HO2 := Lib.hid h3
          have d0 : w4.cell? ⟨go, 0, none⟩ = some (.int .i64 o.k) := cells_of h3 0
          have d1 : w4.cell? ⟨go, 1, none⟩ = some (.int .i64 o.a) := cells_of h3 1
          have d2 : w4.cell? ⟨go, 2, none⟩ = some (.int .i64 o.b) := cells_of h3 2
          have d3 : w4.cell? ⟨go, 3, none⟩ = some (.int .i64 o.c) := cells_of h3 3
          have d4 : w4.cell? ⟨go, 4, none⟩ = some (.bool o.f) := cells_of h3 4
          have g1 := lt_of_block h3
          have gf : w4.frozen? ⟨go, 1, none⟩ = false := free_of h3 1
          clear hol hbl T0 B0 h3 HO0
          obtain ⟨nu, hnu⟩ : ∃ nu, (usedL 1 Bs).length = nu := ⟨_, rfl⟩
          rw [hnu]
          have HNU := Lib.hid hnu
          clear hnu
          have T3 := T2
          have B3 := B2
          have HOK3 := HOK
          cases hf : o.f with
          | false =>
            rw [hf] at d4
            have HOF := Lib.hid hf
            clear T2 B2 gf OL
            have HOK4 := Lib.hid (show (⟨o.k, o.a, o.b, o.c, false⟩ : Op).ok from HOK.out)
            clear HOK3
            have HOK3 := HOK4
            clear HOK4
            have HDO := Lib.hid (does_any q p b r rp Bs (⟨o.k, o.a, o.b, o.c, false⟩ : Op) _ T3.out HNE.out HOK3.out)
            go_wp2_with fail
            refine HDO.out.mono ?_
            rintro e w5 ⟨rfl, ⟨Bn, hln, ht⟩, hu⟩
            have T5 := Lib.hid ht
            have L5 := Lib.hid (show 1 + len Bn = N by rw [hln]; exact LR.out)
            have B5 := Lib.hid (B3.out.trans (hu.below (B := W.heap.size) (fun y hy => by have := QQ.out; simp only [List.mem_cons, List.not_mem_nil, or_false] at hy; omega) B3.out.size))
            clear hln ht hu HDO T3 B3 HOK3 LR d0 d1 d2 d3 d4
            go_wp2_with fail
            refine (alike_any q p b r rp Bn _ T5.out).mono ?_
            rintro e w6 ⟨rfl, hb6⟩
            have T6 := Lib.hid (T5.out.below hb6)
            have B6 := Lib.hid (B5.out.trans (hb6.mono B5.out.size))
            clear hb6 T5 B5
            go_wp2
            go_roundg (gk - 1)
            case measure => exact hgg
            case rel => exact ⟨k + 1, Bn, by go_num, by omega, T6.out, L5.out, B6.out⟩
          | true =>
            rw [hf] at d4
            have HOF := Lib.hid hf
            by_cases hnz : nu = 0
            · have hnzi : ((0 : Int) < (nu : Int)) = False := eq_false (by omega)
              clear T2 B2 gf OL
              have HOK4 := Lib.hid (show (⟨o.k, o.a, o.b, o.c, true⟩ : Op).ok from HOK.out)
              clear HOK3
              have HOK3 := HOK4
              clear HOK4
              have HDO := Lib.hid (does_any q p b r rp Bs (⟨o.k, o.a, o.b, o.c, true⟩ : Op) _ T3.out HNE.out HOK3.out)
              go_wp2_with fail
              refine HDO.out.mono ?_
              rintro e w5 ⟨rfl, ⟨Bn, hln, ht⟩, hu⟩
              have T5 := Lib.hid ht
              have L5 := Lib.hid (show 1 + len Bn = N by rw [hln]; exact LR.out)
              have B5 := Lib.hid (B3.out.trans (hu.below (B := W.heap.size) (fun y hy => by have := QQ.out; simp only [List.mem_cons, List.not_mem_nil, or_false] at hy; omega) B3.out.size))
              clear hln ht hu HDO T3 B3 HOK3 LR d0 d1 d2 d3 d4
              go_wp2_with fail
              refine (alike_any q p b r rp Bn _ T5.out).mono ?_
              rintro e w6 ⟨rfl, hb6⟩
              have T6 := Lib.hid (T5.out.below hb6)
              have B6 := Lib.hid (B5.out.trans (hb6.mono B5.out.size))
              clear hb6 T5 B5
              go_wp2
              go_roundg (gk - 1)
              case measure => exact hgg
              case rel => exact ⟨k + 1, Bn, by go_num, by omega, T6.out, L5.out, B6.out⟩
            · have hnzi : (0 : Int) < (nu : Int) := by omega
              have HPK := Lib.hid (pick_any o.k 8 w4 HOK.out.1 (by decide) (by decide))
              obtain ⟨t, ht⟩ : ∃ t, pickN o.k 8 = t := ⟨_, rfl⟩
              rw [ht] at HPK
              clear ht
              go_wp2_with fail
              refine HPK.out.mono ?_
              rintro e w' ⟨rfl, rfl⟩
              by_cases ht2 : 2 < t
              · have ht2i : (2 : Int) < (t : Int) := by omega
                have hnu1 : nu ≤ 1048576 := by
                  have h1 := usedL_length 1 Bs
                  rw [HNU.out] at h1
                  have h2 := LR.out
                  omega
                obtain ⟨z, hz⟩ : ∃ z, (usedL 1 Bs)[pickN o.a nu]? = some z := ⟨_, List.getElem?_eq_getElem (by rw [HNU.out]; exact pickN_lt _ (by omega))⟩
                obtain ⟨bl, ol, rfl, hbl, cl⟩ := IRow.at_ (Row.of_own OL.out) hz
                have hpl := pickN_lt o.a (show 0 < nu by omega)
                have hpli : (pickN o.a nu : Int) < (nu : Int) := by omega
                have HZ := Lib.hid (show InI z by
                  obtain ⟨pre, c, post, hB, _, hzz⟩ := mem_usedL (List.mem_of_getElem? hz)
                  have h1 := LR.out
                  rw [hB, len_append, len_cons] at h1
                  unfold InI
                  omega)
                have HPA := Lib.hid (pick_any o.a nu w' HOK.out.2.1 (by omega) hnu1)
                clear hz
                go_wp2_with fail
                refine HPA.out.mono ?_
                rintro e w' ⟨rfl, rfl⟩
                go_upto_region 17 with fail
                have HO3 := Lib.hid (heap_set_eq (i := 1) (u := .int .i64 z) HO2.out)
                have T4 := Lib.hid (show Two q p b r rp Bs (w'.setCell ⟨go, 1, none⟩ (.int .i64 z)) from ⟨T2.out.ar.keep (fun k hk => Below.heap_setCell _ _ _ _ (by have := HGO.out; show k ≠ go; omega)), T2.out.rm.keep (Below.heap_setCell _ _ _ _ (by have := HGO.out; show r ≠ go; omega)) (Below.heap_setCell _ _ _ _ (by have := HGO.out; show rp ≠ go; omega))⟩)
                have B4 := Lib.hid (B2.out.setCell (p := ⟨go, 1, none⟩) HGO.out.2.2.2.2.2 (.int .i64 z))
                clear d0 d1 d2 d3 d4 T2 B2 T3 B3 gf cl OL hbl
                generalize w'.setCell ⟨go, 1, none⟩ (.int .i64 z) = w7 at *
                have d0 : w7.cell? ⟨go, 0, none⟩ = some (.int .i64 o.k) := cells_of HO3.out 0
                have d1 : w7.cell? ⟨go, 1, none⟩ = some (.int .i64 z) := cells_of HO3.out 1
                have d2 : w7.cell? ⟨go, 2, none⟩ = some (.int .i64 o.b) := cells_of HO3.out 2
                have d3 : w7.cell? ⟨go, 3, none⟩ = some (.int .i64 o.c) := cells_of HO3.out 3
                have d4 : w7.cell? ⟨go, 4, none⟩ = some (.bool true) := by rw [← HOF.out]; exact cells_of HO3.out 4
                have g2 := lt_of_block HO3.out
                have T3 := T4
                have B3 := B4
                have HOK3 := Lib.hid (show (⟨o.k, z, o.b, o.c, true⟩ : Op).ok from ⟨HOK.out.1, HZ.out, HOK.out.2.2.1, HOK.out.2.2.2⟩)
                clear T4 B4
                have HDO := Lib.hid (does_any q p b r rp Bs (⟨o.k, z, o.b, o.c, true⟩ : Op) _ T3.out HNE.out HOK3.out)
                go_wp2_with fail
                refine HDO.out.mono ?_
                rintro e w5 ⟨rfl, ⟨Bn, hln, ht⟩, hu⟩
                have T5 := Lib.hid ht
                have L5 := Lib.hid (show 1 + len Bn = N by rw [hln]; exact LR.out)
                have B5 := Lib.hid (B3.out.trans (hu.below (B := W.heap.size) (fun y hy => by have := QQ.out; simp only [List.mem_cons, List.not_mem_nil, or_false] at hy; omega) B3.out.size))
                clear hln ht hu HDO T3 B3 HOK3 LR d0 d1 d2 d3 d4
                go_wp2_with fail
                refine (alike_any q p b r rp Bn _ T5.out).mono ?_
                rintro e w6 ⟨rfl, hb6⟩
                have T6 := Lib.hid (T5.out.below hb6)
                have B6 := Lib.hid (B5.out.trans (hb6.mono B5.out.size))
                clear hb6 T5 B5
                go_wp2
                go_roundg (gk - 1)
                case measure => exact hgg
                case rel => exact ⟨k + 1, Bn, by go_num, by omega, T6.out, L5.out, B6.out⟩
              · have ht2i : ((2 : Int) < (t : Int)) = False := eq_false (by omega)
                clear T2 B2 gf OL
                have HOK4 := Lib.hid (show (⟨o.k, o.a, o.b, o.c, true⟩ : Op).ok from HOK.out)
                clear HOK3
                have HOK3 := HOK4
                clear HOK4
                have HDO := Lib.hid (does_any q p b r rp Bs (⟨o.k, o.a, o.b, o.c, true⟩ : Op) _ T3.out HNE.out HOK3.out)
                go_wp2_with fail
                refine HDO.out.mono ?_
                rintro e w5 ⟨rfl, ⟨Bn, hln, ht⟩, hu⟩
                have T5 := Lib.hid ht
                have L5 := Lib.hid (show 1 + len Bn = N by rw [hln]; exact LR.out)
                have B5 := Lib.hid (B3.out.trans (hu.below (B := W.heap.size) (fun y hy => by have := QQ.out; simp only [List.mem_cons, List.not_mem_nil, or_false] at hy; omega) B3.out.size))
                clear hln ht hu HDO T3 B3 HOK3 LR d0 d1 d2 d3 d4
                go_wp2_with fail
                refine (alike_any q p b r rp Bn _ T5.out).mono ?_
                rintro e w6 ⟨rfl, hb6⟩
                have T6 := Lib.hid (T5.out.below hb6)
                have B6 := Lib.hid (B5.out.trans (hb6.mono B5.out.size))
                clear hb6 T5 B5
                go_wp2
                go_roundg (gk - 1)
                case measure => exact hgg
                case rel => exact ⟨k + 1, Bn, by go_num, by omega, T6.out, L5.out, B6.out⟩
        · by_cases hk1 : k < m
          · have hk1i : (k : Int) < (m : Int) := by omega
            have hk2i : ¬ (k : Int) < 150 := by omega
            go_wp2
            go_ret
            exact ⟨rfl, BR.out⟩
          · have hk1i : ¬ (k : Int) < (m : Int) := by omega
            go_wp2
            go_ret
            exact ⟨rfl, BR.out⟩
    · have h3i : ((3000 : Int) < (n : Int)) = False := eq_false (by omega)
      obtain ⟨N, hNe⟩ : ∃ N : Nat, N = n := ⟨_, rfl⟩
      have hN16 : 16 ≤ N := by omega
      have hN3 : N ≤ 3000 := by omega
      subst hNe
      go_enter Try.func3, Try.ntmps3
      go_wp2_with fail
      refine (shown_any W).mono ?_
      rintro e w1 ⟨rfl, hb1⟩
      have B1 := Lib.hid hb1
      clear hb1
      go_wp2_with fail
      refine (new_any N w1 hN16 (by omega)).mono ?_
      rintro e w2 ⟨q, p, b, rfl, ha, hq, hb⟩
      have A1 := Lib.hid ha
      have HQ := Lib.hid hq
      have B2' := Lib.hid (B1.out.trans (hb.mono B1.out.size))
      have HLT := Lib.hid ha.lt
      clear ha hq hb
      go_wp2_with fail
      refine (rnew_any N w2 hN16 (by omega)).mono ?_
      rintro e w3 ⟨r, rp, rfl, hr, hq2, hb⟩
      have AA := Lib.hid (A1.out.below hb)
      have RR := Lib.hid hr
      have B2 := Lib.hid (B2'.out.trans (hb.mono B2'.out.size))
      have HNE := Lib.hid (show (r ≠ q ∧ r ≠ p ∧ r ≠ b) ∧ rp ≠ q ∧ rp ≠ p ∧ rp ≠ b by have := HLT.out; omega)
      have QQ := Lib.hid (show W.heap.size ≤ q ∧ W.heap.size ≤ p ∧ W.heap.size ≤ b ∧ W.heap.size ≤ rp by have := HQ.out; have := B1.out.size; have := B2'.out.size; omega)
      clear hr hq2 hb A1 HQ B2' HLT B1
      have A2 := Lib.hid (show Two q p b r rp [freeBk (N - 1)] w3 from ⟨AA.out, RR.out⟩)
      have L2 := Lib.hid (show 1 + len [freeBk (N - 1)] = N by rw [len_cons, len_nil, freeBk_sz (by omega)]; omega)
      clear AA RR
      go_wp2
      go_loopg [9] 150 (fun g iv wx => ∃ (k : Nat) (Bs : List Blk), iv = .int .i64 (k : Int) ∧ k + g = 150 ∧ Two q p b r rp Bs wx ∧ 1 + len Bs = N ∧ Below W.heap.size W wx)
      case atStart => exact ⟨0, _, rfl, rfl, A2.out, L2.out, B2.out⟩
      case round =>
        obtain ⟨k, Bs, rfl, hkg, ha, hl, hb⟩ := hrel
        have TR := Lib.hid ha
        have BR := Lib.hid hb
        have LR := Lib.hid hl
        clear ha hb hl A2 B2 L2
        by_cases hk : k < m ∧ k < 150
        · obtain ⟨hk1, hk2⟩ := hk
          have hk1i : (k : Int) < (m : Int) := by omega
          have hk2i : (k : Int) < 150 := by omega
          have hgg : gk - 1 < gk := by omega
          obtain ⟨o, ho⟩ : ∃ o, ops[k]? = some o := ⟨_, List.getElem?_eq_getElem (by rw [HMM.out]; exact hk1)⟩
          obtain ⟨hok, bo, oo, rfl, hbo, c0, c1, c2, c3, c4⟩ := (HR.out.below BR.out (Nat.le_refl _)).at_ ho
          have HOK := Lib.hid hok
          have hbs : bo < wr.heap.size := Nat.lt_of_lt_of_le hbo BR.out.size
          have HO0 := Lib.hid (heap_new wr (.cells #[.int .i64 o.k, .int .i64 o.a, .int .i64 o.b, .int .i64 o.c, .bool o.f] 31))
          have HB0 := Lib.hid ((Below.refl wr.heap.size wr).alloc (Nat.le_refl _) (.cells #[.int .i64 o.k, .int .i64 o.a, .int .i64 o.b, .int .i64 o.c, .bool o.f] 31))
          clear hok ho
          go_wp2_with fail
          clear c0 c1 c2 c3 c4 hbs
          generalize wr.alloc (.cells #[.int .i64 o.k, .int .i64 o.a, .int .i64 o.b, .int .i64 o.c, .bool o.f] 31) = w0 at *
          have T0 := Lib.hid (TR.out.below HB0.out)
          have B0 := Lib.hid (BR.out.trans (HB0.out.mono BR.out.size))
          have hgt := TR.out.ar.lt
          have hgr := TR.out.rm.lt
          have HGO := Lib.hid (show wr.heap.size ≠ q ∧ wr.heap.size ≠ p ∧ wr.heap.size ≠ b ∧ wr.heap.size ≠ r ∧ wr.heap.size ≠ rp ∧ W.heap.size ≤ wr.heap.size by have := BR.out.size; omega)
          clear TR BR HB0 hgt hgr
          generalize wr.heap.size = go at *
          refine (rusedl_any r rp Bs _ T0.out.ar.1 T0.out.rm).mono ?_
          rintro e w4 ⟨lv, rfl, hol, hbl⟩
          obtain ⟨la, lc, rfl⟩ := hol.form
          have OL := Lib.hid hol
          have T2 := Lib.hid (T0.out.below hbl)
          have B2 := Lib.hid (B0.out.trans (hbl.mono B0.out.size))
          have h3 := (hbl.block go (lt_of_block HO0.out)).trans HO0.out
          have HO2 := Lib.hid h3
          have d0 : w4.cell? ⟨go, 0, none⟩ = some (.int .i64 o.k) := cells_of h3 0
          have d1 : w4.cell? ⟨go, 1, none⟩ = some (.int .i64 o.a) := cells_of h3 1
          have d2 : w4.cell? ⟨go, 2, none⟩ = some (.int .i64 o.b) := cells_of h3 2
          have d3 : w4.cell? ⟨go, 3, none⟩ = some (.int .i64 o.c) := cells_of h3 3
          have d4 : w4.cell? ⟨go, 4, none⟩ = some (.bool o.f) := cells_of h3 4
          have g1 := lt_of_block h3
          have gf : w4.frozen? ⟨go, 1, none⟩ = false := free_of h3 1
          clear hol hbl T0 B0 h3 HO0
          obtain ⟨nu, hnu⟩ : ∃ nu, (usedL 1 Bs).length = nu := ⟨_, rfl⟩
          rw [hnu]
          have HNU := Lib.hid hnu
          clear hnu
          have T3 := T2
          have B3 := B2
          have HOK3 := HOK
          cases hf : o.f with
          | false =>
            rw [hf] at d4
            have HOF := Lib.hid hf
            clear T2 B2 gf OL
            have HOK4 := Lib.hid (show (⟨o.k, o.a, o.b, o.c, false⟩ : Op).ok from HOK.out)
            clear HOK3
            have HOK3 := HOK4
            clear HOK4
            have HDO := Lib.hid (does_any q p b r rp Bs (⟨o.k, o.a, o.b, o.c, false⟩ : Op) _ T3.out HNE.out HOK3.out)
            go_wp2_with fail
            refine HDO.out.mono ?_
            rintro e w5 ⟨rfl, ⟨Bn, hln, ht⟩, hu⟩
            have T5 := Lib.hid ht
            have L5 := Lib.hid (show 1 + len Bn = N by rw [hln]; exact LR.out)
            have B5 := Lib.hid (B3.out.trans (hu.below (B := W.heap.size) (fun y hy => by have := QQ.out; simp only [List.mem_cons, List.not_mem_nil, or_false] at hy; omega) B3.out.size))
            clear hln ht hu HDO T3 B3 HOK3 LR d0 d1 d2 d3 d4
            go_wp2_with fail
            refine (alike_any q p b r rp Bn _ T5.out).mono ?_
            rintro e w6 ⟨rfl, hb6⟩
            have T6 := Lib.hid (T5.out.below hb6)
            have B6 := Lib.hid (B5.out.trans (hb6.mono B5.out.size))
            clear hb6 T5 B5
            go_wp2
            go_roundg (gk - 1)
            case measure => exact hgg
            case rel => exact ⟨k + 1, Bn, by go_num, by omega, T6.out, L5.out, B6.out⟩
          | true =>
            rw [hf] at d4
            have HOF := Lib.hid hf
            by_cases hnz : nu = 0
            · have hnzi : ((0 : Int) < (nu : Int)) = False := eq_false (by omega)
              clear T2 B2 gf OL
              have HOK4 := Lib.hid (show (⟨o.k, o.a, o.b, o.c, true⟩ : Op).ok from HOK.out)
              clear HOK3
              have HOK3 := HOK4
              clear HOK4
              have HDO := Lib.hid (does_any q p b r rp Bs (⟨o.k, o.a, o.b, o.c, true⟩ : Op) _ T3.out HNE.out HOK3.out)
              go_wp2_with fail
              refine HDO.out.mono ?_
              rintro e w5 ⟨rfl, ⟨Bn, hln, ht⟩, hu⟩
              have T5 := Lib.hid ht
              have L5 := Lib.hid (show 1 + len Bn = N by rw [hln]; exact LR.out)
              have B5 := Lib.hid (B3.out.trans (hu.below (B := W.heap.size) (fun y hy => by have := QQ.out; simp only [List.mem_cons, List.not_mem_nil, or_false] at hy; omega) B3.out.size))
              clear hln ht hu HDO T3 B3 HOK3 LR d0 d1 d2 d3 d4
              go_wp2_with fail
              refine (alike_any q p b r rp Bn _ T5.out).mono ?_
              rintro e w6 ⟨rfl, hb6⟩
              have T6 := Lib.hid (T5.out.below hb6)
              have B6 := Lib.hid (B5.out.trans (hb6.mono B5.out.size))
              clear hb6 T5 B5
              go_wp2
              go_roundg (gk - 1)
              case measure => exact hgg
              case rel => exact ⟨k + 1, Bn, by go_num, by omega, T6.out, L5.out, B6.out⟩
            · have hnzi : (0 : Int) < (nu : Int) := by omega
              have HPK := Lib.hid (pick_any o.k 8 w4 HOK.out.1 (by decide) (by decide))
              obtain ⟨t, ht⟩ : ∃ t, pickN o.k 8 = t := ⟨_, rfl⟩
              rw [ht] at HPK
              clear ht
              go_wp2_with fail
              refine HPK.out.mono ?_
              rintro e w' ⟨rfl, rfl⟩
              by_cases ht2 : 2 < t
              · have ht2i : (2 : Int) < (t : Int) := by omega
                have hnu1 : nu ≤ 1048576 := by
                  have h1 := usedL_length 1 Bs
                  rw [HNU.out] at h1
                  have h2 := LR.out
                  omega
                obtain ⟨z, hz⟩ : ∃ z, (usedL 1 Bs)[pickN o.a nu]? = some z := ⟨_, List.getElem?_eq_getElem (by rw [HNU.out]; exact pickN_lt _ (by omega))⟩
                obtain ⟨bl, ol, rfl, hbl, cl⟩ := IRow.at_ (Row.of_own OL.out) hz
                have hpl := pickN_lt o.a (show 0 < nu by omega)
                have hpli : (pickN o.a nu : Int) < (nu : Int) := by omega
                have HZ := Lib.hid (show InI z by
                  obtain ⟨pre, c, post, hB, _, hzz⟩ := mem_usedL (List.mem_of_getElem? hz)
                  have h1 := LR.out
                  rw [hB, len_append, len_cons] at h1
                  unfold InI
                  omega)
                have HPA := Lib.hid (pick_any o.a nu w' HOK.out.2.1 (by omega) hnu1)
                clear hz
                go_wp2_with fail
                refine HPA.out.mono ?_
                rintro e w' ⟨rfl, rfl⟩
                go_upto_region 17 with fail
                have HO3 := Lib.hid (heap_set_eq (i := 1) (u := .int .i64 z) HO2.out)
                have T4 := Lib.hid (show Two q p b r rp Bs (w'.setCell ⟨go, 1, none⟩ (.int .i64 z)) from ⟨T2.out.ar.keep (fun k hk => Below.heap_setCell _ _ _ _ (by have := HGO.out; show k ≠ go; omega)), T2.out.rm.keep (Below.heap_setCell _ _ _ _ (by have := HGO.out; show r ≠ go; omega)) (Below.heap_setCell _ _ _ _ (by have := HGO.out; show rp ≠ go; omega))⟩)
                have B4 := Lib.hid (B2.out.setCell (p := ⟨go, 1, none⟩) HGO.out.2.2.2.2.2 (.int .i64 z))
                clear d0 d1 d2 d3 d4 T2 B2 T3 B3 gf cl OL hbl
                generalize w'.setCell ⟨go, 1, none⟩ (.int .i64 z) = w7 at *
                have d0 : w7.cell? ⟨go, 0, none⟩ = some (.int .i64 o.k) := cells_of HO3.out 0
                have d1 : w7.cell? ⟨go, 1, none⟩ = some (.int .i64 z) := cells_of HO3.out 1
                have d2 : w7.cell? ⟨go, 2, none⟩ = some (.int .i64 o.b) := cells_of HO3.out 2
                have d3 : w7.cell? ⟨go, 3, none⟩ = some (.int .i64 o.c) := cells_of HO3.out 3
                have d4 : w7.cell? ⟨go, 4, none⟩ = some (.bool true) := by rw [← HOF.out]; exact cells_of HO3.out 4
                have g2 := lt_of_block HO3.out
                have T3 := T4
                have B3 := B4
                have HOK3 := Lib.hid (show (⟨o.k, z, o.b, o.c, true⟩ : Op).ok from ⟨HOK.out.1, HZ.out, HOK.out.2.2.1, HOK.out.2.2.2⟩)
                clear T4 B4
                have HDO := Lib.hid (does_any q p b r rp Bs (⟨o.k, z, o.b, o.c, true⟩ : Op) _ T3.out HNE.out HOK3.out)
                go_wp2_with fail
                refine HDO.out.mono ?_
                rintro e w5 ⟨rfl, ⟨Bn, hln, ht⟩, hu⟩
                have T5 := Lib.hid ht
                have L5 := Lib.hid (show 1 + len Bn = N by rw [hln]; exact LR.out)
                have B5 := Lib.hid (B3.out.trans (hu.below (B := W.heap.size) (fun y hy => by have := QQ.out; simp only [List.mem_cons, List.not_mem_nil, or_false] at hy; omega) B3.out.size))
                clear hln ht hu HDO T3 B3 HOK3 LR d0 d1 d2 d3 d4
                go_wp2_with fail
                refine (alike_any q p b r rp Bn _ T5.out).mono ?_
                rintro e w6 ⟨rfl, hb6⟩
                have T6 := Lib.hid (T5.out.below hb6)
                have B6 := Lib.hid (B5.out.trans (hb6.mono B5.out.size))
                clear hb6 T5 B5
                go_wp2
                go_roundg (gk - 1)
                case measure => exact hgg
                case rel => exact ⟨k + 1, Bn, by go_num, by omega, T6.out, L5.out, B6.out⟩
              · have ht2i : ((2 : Int) < (t : Int)) = False := eq_false (by omega)
                clear T2 B2 gf OL
                have HOK4 := Lib.hid (show (⟨o.k, o.a, o.b, o.c, true⟩ : Op).ok from HOK.out)
                clear HOK3
                have HOK3 := HOK4
                clear HOK4
                have HDO := Lib.hid (does_any q p b r rp Bs (⟨o.k, o.a, o.b, o.c, true⟩ : Op) _ T3.out HNE.out HOK3.out)
                go_wp2_with fail
                refine HDO.out.mono ?_
                rintro e w5 ⟨rfl, ⟨Bn, hln, ht⟩, hu⟩
                have T5 := Lib.hid ht
                have L5 := Lib.hid (show 1 + len Bn = N by rw [hln]; exact LR.out)
                have B5 := Lib.hid (B3.out.trans (hu.below (B := W.heap.size) (fun y hy => by have := QQ.out; simp only [List.mem_cons, List.not_mem_nil, or_false] at hy; omega) B3.out.size))
                clear hln ht hu HDO T3 B3 HOK3 LR d0 d1 d2 d3 d4
                go_wp2_with fail
                refine (alike_any q p b r rp Bn _ T5.out).mono ?_
                rintro e w6 ⟨rfl, hb6⟩
                have T6 := Lib.hid (T5.out.below hb6)
                have B6 := Lib.hid (B5.out.trans (hb6.mono B5.out.size))
                clear hb6 T5 B5
                go_wp2
                go_roundg (gk - 1)
                case measure => exact hgg
                case rel => exact ⟨k + 1, Bn, by go_num, by omega, T6.out, L5.out, B6.out⟩
        · by_cases hk1 : k < m
          · have hk1i : (k : Int) < (m : Int) := by omega
            have hk2i : ¬ (k : Int) < 150 := by omega
            go_wp2
            go_ret
            exact ⟨rfl, BR.out⟩
          · have hk1i : ¬ (k : Int) < (m : Int) := by omega
            go_wp2
            go_ret
            exact ⟨rfl, BR.out⟩
end Go.Proofs.Ytmgpimibnogcaaa
