/-
  WALK of ArenaKeeps.
-/
import Derived.Test.YtmgpimibnogcaaaKd
import Derived.Test.YtmgpimibnogcaaaEw
set_option linter.unusedVariables false
set_option linter.unusedSimpArgs false
namespace Go.Proofs.Ytmgpimibnogcaaa
open Go.RowKit

set_option maxRecDepth 1000000 in
set_option maxHeartbeats 25600000 in
theorem keeps_walk (x : Int) (ops : List Op) (v : Value) (W : World) (hx : InI x) (hr : ORow W.heap.size W v ops) :
    Calls Try.prog 4 #[.int .i64 x, v] W fun e w' => e = .returned (.bool true) ∧ Below W.heap.size W w' := by
  obtain ⟨A, cap, rfl, _, hm⟩ := hr.form
  unfold maxLen at hm
  have HR := Lib.hid hr
  have HX := Lib.hid hx
  obtain ⟨m, hmm⟩ : ∃ m, ops.length = m := ⟨_, rfl⟩
  rw [hmm] at hm HR ⊢
  have HMM := Lib.hid hmm
  obtain ⟨i0, hi0, hz0', hz1, hz2⟩ := info45
  clear hr hx hmm
  go_enter Try.func4, Try.ntmps4
  go_wp2_with fail
  refine (shown_any W).mono ?_
  rintro e w1 ⟨rfl, hb1⟩
  have B1 := Lib.hid hb1
  clear hb1
  go_wp2_with fail
  refine (pick_any x 2000 w1 HX.out (by decide) (by decide)).mono ?_
  rintro e w' ⟨rfl, rfl⟩
  have hN1 : 16 ≤ 16 + pickN x 2000 := by omega
  have hN2 : 16 + pickN x 2000 ≤ 2016 := by have := pickN_lt x (n := 2000) (by decide); omega
  have hNw : IntKind.i64.wrap (16 + (pickN x 2000 : Int)) = ((16 + pickN x 2000 : Nat) : Int) := by rw [IntWalk.i64_in _ (by omega)]; omega
  generalize hN : 16 + pickN x 2000 = N at *
  clear hN
  go_wp2_with fail
  refine (new_any N w' hN1 (by omega)).mono ?_
  rintro e w2 ⟨q, p, b, rfl, ha, hq, hb⟩
  have A2 := Lib.hid ha
  have QQ := Lib.hid (show W.heap.size ≤ q ∧ W.heap.size ≤ p ∧ W.heap.size ≤ b by have := B1.out.size; omega)
  have B2 := Lib.hid (B1.out.trans (hb.mono B1.out.size))
  have L2 := Lib.hid (show 1 + len [freeBk (N - 1)] = N by rw [len_cons, len_nil, freeBk_sz (by omega)]; omega)
  have HS := Lib.hid (show ∀ y ∈ [q, p, b], y < w2.heap.size from fun y hy => by have := ha.lt; simp only [List.mem_cons, List.not_mem_nil, or_false] at hy; omega)
  have HWS := Lib.hid B2.out.size
  clear ha hq hb B1 hNw
  go_wp2
  go_loopg [8, 9] 120 (fun g v iv wx => ∃ (k : Nat) (Bs : List Blk) (hs : List Hl), iv = .int .i64 (k : Int) ∧ k + g = 120 ∧ Arena q p b Bs wx ∧ 1 + len Bs = N ∧ HMem w2.heap.size wx v hs ∧ (usedB 1 Bs).Perm (hs.map Hl.pr) ∧ Below W.heap.size W wx ∧ w2.heap.size ≤ wx.heap.size)
  case atStart => exact ⟨0, _, [], rfl, rfl, A2.out, L2.out, HMem.nil _ _, List.Perm.refl _, B2.out, Nat.le_refl _⟩
  case round =>
    obtain ⟨k, Bs, hs, rfl, hkg, ha, hl, hm8, hpm, hb, hwz⟩ := hrel
    obtain ⟨nl, hnl⟩ : ∃ nl, hs.length = nl := ⟨_, rfl⟩
    obtain ⟨la, lc, hv⟩ := hm8.form
    rw [hnl] at hv
    subst hv
    have hcnt : nl ≤ 2016 := by
      have h1 := hpm.length_eq
      have h2 := usedL_length 1 Bs
      rw [← usedB_fst, List.length_map] at h2
      rw [List.length_map] at h1
      omega
    have AR := Lib.hid ha
    have BR := Lib.hid hb
    have LR := Lib.hid hl
    have MR := Lib.hid hm8
    have PR := Lib.hid hpm
    have HNL := Lib.hid hnl
    clear ha hb hl hm8 hpm hnl A2 B2 L2
    by_cases hk : k < m ∧ k < 120
    · obtain ⟨hk1, hk2⟩ := hk
      have hk1i : (k : Int) < (m : Int) := by omega
      have hk2i : (k : Int) < 120 := by omega
      have hgg : gk - 1 < gk := by omega
      obtain ⟨o, ho⟩ : ∃ o, ops[k]? = some o := ⟨_, List.getElem?_eq_getElem (by rw [HMM.out]; exact hk1)⟩
      obtain ⟨hok, bo, oo, rfl, hbo, c0, c1, c2, c3, c4⟩ := (HR.out.below BR.out (Nat.le_refl _)).at_ ho
      have HOK := Lib.hid hok
      have hbs : bo < wr.heap.size := Nat.lt_of_lt_of_le hbo BR.out.size
      have HO0 := Lib.hid (heap_new wr (.cells #[.int .i64 o.k, .int .i64 o.a, .int .i64 o.b, .int .i64 o.c, .bool o.f] 31))
      have HB0 := Lib.hid ((Below.refl wr.heap.size wr).alloc (Nat.le_refl _) (.cells #[.int .i64 o.k, .int .i64 o.a, .int .i64 o.b, .int .i64 o.c, .bool o.f] 31))
      clear hok ho
      go_wp2_with fail
      clear c0 c1 c2 c3 c4 hbs
      generalize wr.alloc (.cells #[.int .i64 o.k, .int .i64 o.a, .int .i64 o.b, .int .i64 o.c, .bool o.f] 31) = w0 at *
      have A0 := Lib.hid (AR.out.below HB0.out)
      have M0 := Lib.hid (MR.out.below HB0.out)
      have B0 := Lib.hid (BR.out.trans (HB0.out.mono BR.out.size))
      have hz0 := HB0.out.size
      have hgo : w2.heap.size ≤ wr.heap.size := hwz
      clear AR BR MR HB0
      generalize wr.heap.size = go at *
      have c0 : w0.cell? ⟨go, 0, none⟩ = some (.int .i64 o.k) := cells_of HO0.out 0
      have c1 : w0.cell? ⟨go, 1, none⟩ = some (.int .i64 o.a) := cells_of HO0.out 1
      have c2 : w0.cell? ⟨go, 2, none⟩ = some (.int .i64 o.b) := cells_of HO0.out 2
      have c3 : w0.cell? ⟨go, 3, none⟩ = some (.int .i64 o.c) := cells_of HO0.out 3
      have g1 := lt_of_block HO0.out
      refine (pick_any o.k 4 _ HOK.out.1 (by decide) (by decide)).mono ?_
      rintro e wa ⟨rfl, rfl⟩
      obtain ⟨t, ht⟩ : ∃ t, pickN o.k 4 = t := ⟨_, rfl⟩
      have ht4 : t < 4 := by rw [← ht]; exact pickN_lt _ (by decide)
      rw [ht]
      clear ht
      rcases (show t = 0 ∨ t = 1 ∨ t = 2 ∨ t = 3 by omega) with rfl | rfl | rfl | rfl
      · go_wp2_with fail
        refine (pick_any o.b 40 _ HOK.out.2.2.1 (by decide) (by decide)).mono ?_
        rintro e wb ⟨rfl, rfl⟩
        have hp40 := pickN_lt o.b (n := 40) (by decide)
        have hw40 : IntKind.i64.wrap (1 + (pickN o.b 40 : Int)) = ((1 + pickN o.b 40 : Nat) : Int) := by rw [IntWalk.i64_in _ (by omega)]; omega
        obtain ⟨n, hn⟩ : ∃ n, 1 + pickN o.b 40 = n := ⟨_, rfl⟩
        have hn1 : 1 ≤ n := by omega
        have hn2 : n ≤ 40 := by omega
        rw [hn] at hw40
        clear hn hp40
        go_wp2_with fail
        refine (arena_fits A0.out (n : Int)).mono ?_
        rintro e wf ⟨rf, rfl, hrf, kd, hkd⟩
        rw [Int.toNat_natCast] at hrf
        have A1 := Lib.hid (show Arena q p b Bs wf by rw [hkd]; exact A0.out.drewN kd)
        have M1 := Lib.hid (show HMem w2.heap.size wf (.slice la nl lc) hs by rw [hkd]; exact M0.out.drewN kd)
        have B1 := Lib.hid (show Below W.heap.size W wf by rw [hkd]; exact below_drewN B0.out kd)
        have hz1' : w2.heap.size ≤ wf.heap.size := by rw [hkd]; show w2.heap.size ≤ wb.heap.size; omega
        clear hkd A0 M0 B0 c0 c1 c2 c3
        have HRF := Lib.hid hrf
        clear hrf
        go_wp2_with fail
        refine (keeps_alloc PR.out A1.out n hn1 (by omega)).mono ?_
        rintro e w7 ⟨x7, f7, rfl, hcase, hu⟩
        have B7 := Lib.hid (step_below B1.out hu QQ.out (Nat.le_refl _))
        have M7 := Lib.hid (M1.out.upd hu HS.out)
        have hz7 := hu.size
        clear hu A1 B1 M1
        rcases hcase with ⟨rfl, hno, ha⟩ | ⟨rfl, hex, Bn, s, hs1, hs2, hln, hpn, ha⟩
        · obtain rfl : rf = false := by
            cases rf with
            | false => rfl
            | true =>
              obtain ⟨_, c, hc, hcu, hcz⟩ := HRF.out.1 rfl
              have := hno c hc hcu
              omega
          have A7 := Lib.hid ha
          clear ha hno HRF
          go_wp2_with fail
          refine (kept_any q p b N w2.heap.size Bs _ hs _ A7.out LR.out M7.out PR.out).mono ?_
          rintro e wk ⟨rfl, hbk⟩
          have AK := Lib.hid (A7.out.below hbk)
          have MK := Lib.hid (M7.out.below hbk)
          have BK := Lib.hid (B7.out.trans (hbk.mono B7.out.size))
          have hzk := hbk.size
          clear hbk
          go_wp2
          go_roundg (gk - 1)
          case measure => exact hgg
          case rel => exact ⟨k + 1, Bs, hs, by go_num, by omega, AK.out, LR.out, MK.out, PR.out, BK.out, by omega⟩
        · obtain rfl : rf = true := HRF.out.2 ⟨by omega, hex⟩
          have A7 := Lib.hid ha
          have P7 := Lib.hid hpn
          have L7 := Lib.hid (show 1 + len Bn = N by rw [hln]; exact LR.out)
          have HSZ := Lib.hid (keeps_size (x := (x7, List.replicate s 0)) (hpn.mem_iff.2 (by simp)) ha)
          rw [List.length_replicate] at HSZ
          clear ha hpn hln hex HRF PR LR
          go_wp2_with fail
          refine HSZ.out.mono ?_
          rintro e w8 ⟨rfl, kd8, hkd8⟩
          have A8 := Lib.hid (show Arena q p b Bn w8 by rw [hkd8]; exact A7.out.drewN kd8)
          have M8 := Lib.hid (show HMem w2.heap.size w8 (.slice la nl lc) hs by rw [hkd8]; exact M7.out.drewN kd8)
          have B8 := Lib.hid (show Below W.heap.size W w8 by rw [hkd8]; exact below_drewN B7.out kd8)
          have hz8 : w2.heap.size ≤ w8.heap.size := by rw [hkd8]; show w2.heap.size ≤ w7.heap.size; omega
          clear hkd8 A7 M7 B7 HSZ
          have hs1i : (n : Int) ≤ (s : Int) := by omega
          have hs2i : (s : Int) ≤ (n : Int) + 1 := by omega
          have hn1w : IntKind.i64.wrap ((n : Int) + 1) = (n : Int) + 1 := IntWalk.i64_in _ (by omega)
          have hmk := make_ints s (by omega)
          have M8' := Lib.hid (show w8.ownsRow w2.heap.size 45 2 (.slice la nl lc) nl (hs.flatMap Hl.cells) by have := M8.out.own; rwa [HNL.out] at this)
          have C1 := Lib.hid ((Below.refl w8.heap.size w8).alloc (Nat.le_refl _) (.cells (icells (List.replicate s 0)).toArray 3))
          have hnb := heap_new w8 (.cells (icells (List.replicate s 0)).toArray 3)
          have HNB := Lib.hid hnb
          clear hnb
          go_wp2_with (at_builtin; refine wpList_append_own2 rfl (.tmp 108) (.tmp 113) 38 rfl w2.heap.size 45 i0 (.agg #[.int .i64 0, .slice none 0 0]) 2 32 Try.underlying38 hi0 hz0' hz1 hz2 rfl (by decide) _ _ _ rfl ((M8'.out.alloc _).alloc _) ⟨_, 0, none⟩ 1 1 [.int .i64 x7, .slice (some ⟨w8.heap.size, 0, none⟩) s s] rfl rfl ?ua ?ub ?uc ?ud ?ue ?_)
          case ua =>
            have hna := new_at (w8.alloc (.cells (icells (List.replicate s 0)).toArray 3)) [.int .i64 x7, .slice (some ⟨w8.heap.size, 0, none⟩) s s] 45 _ rfl
            rw [show (w8.alloc (.cells (icells (List.replicate s 0)).toArray 3)).heap.size = w8.heap.size + 1 by simp] at hna
            exact hna
          case ub =>
            intro u hu
            simp only [List.mem_cons, List.not_mem_nil, or_false] at hu
            rcases hu with rfl | rfl <;> rfl
          case uc => unfold maxLen; omega
          case ud => omega
          case ue => simp; omega
          intro v9 w9 own9 hg9 hm9
          have hC := (C1.out.alloc (by simp) (.cells #[.int .i64 x7, .slice (some ⟨w8.heap.size, 0, none⟩) s s] 45))
          have M9 := Lib.hid (M8.out.more (s := s) hz8 hC (heap_alloc_lt HNB.out) (by rw [HNL.out]; exact own9) hg9)
          have BG := Lib.hid ((hC.mono hz8).grown hg9 (by simp; omega) (fun k hk => own_block_ge M8'.out k hk))
          have A9 := Lib.hid (A8.out.belowB BG.out (by have := HS.out; exact ⟨this q (by simp), this p (by simp), this b (by simp)⟩))
          have B9 := Lib.hid (B8.out.trans (BG.out.mono HWS.out))
          have P9 := Lib.hid (show (usedB 1 Bn).Perm ((hs ++ [(⟨x7, w8.heap.size, List.replicate s 0⟩ : Hl)]).map Hl.pr) by rw [List.map_append]; exact P7.out)
          have hz9 := BG.out.size
          obtain ⟨la9, lc9, rfl⟩ := own_form own9
          clear own9 hg9 hm9 hC C1 HNB M8 M8' A8 B8 hmk
          go_wp2_with fail
          refine (kept_any q p b N w2.heap.size Bn _ (hs ++ [(⟨x7, w8.heap.size, List.replicate s 0⟩ : Hl)]) _ A9.out L7.out M9.out P9.out).mono ?_
          rintro e wk ⟨rfl, hbk⟩
          have AK := Lib.hid (A9.out.below hbk)
          have MK := Lib.hid (M9.out.below hbk)
          have BK := Lib.hid (B9.out.trans (hbk.mono B9.out.size))
          have hzk := hbk.size
          clear hbk
          go_wp2
          go_roundg (gk - 1)
          case measure => exact hgg
          case rel => exact ⟨k + 1, Bn, (hs ++ [(⟨x7, w8.heap.size, List.replicate s 0⟩ : Hl)]), by go_num, by omega, AK.out, L7.out, MK.out, P9.out, BK.out, by omega⟩
      · go_wp2_with fail
        refine (pick_any o.b 40 _ HOK.out.2.2.1 (by decide) (by decide)).mono ?_
        rintro e wb ⟨rfl, rfl⟩
        have hp40 := pickN_lt o.b (n := 40) (by decide)
        have hw40 : IntKind.i64.wrap (1 + (pickN o.b 40 : Int)) = ((1 + pickN o.b 40 : Nat) : Int) := by rw [IntWalk.i64_in _ (by omega)]; omega
        obtain ⟨n, hn⟩ : ∃ n, 1 + pickN o.b 40 = n := ⟨_, rfl⟩
        have hn1 : 1 ≤ n := by omega
        have hn2 : n ≤ 40 := by omega
        rw [hn] at hw40
        clear hn hp40
        go_wp2_with fail
        refine (arena_fits A0.out (n : Int)).mono ?_
        rintro e wf ⟨rf, rfl, hrf, kd, hkd⟩
        rw [Int.toNat_natCast] at hrf
        have A1 := Lib.hid (show Arena q p b Bs wf by rw [hkd]; exact A0.out.drewN kd)
        have M1 := Lib.hid (show HMem w2.heap.size wf (.slice la nl lc) hs by rw [hkd]; exact M0.out.drewN kd)
        have B1 := Lib.hid (show Below W.heap.size W wf by rw [hkd]; exact below_drewN B0.out kd)
        have hz1' : w2.heap.size ≤ wf.heap.size := by rw [hkd]; show w2.heap.size ≤ wb.heap.size; omega
        clear hkd A0 M0 B0 c0 c1 c2 c3
        have HRF := Lib.hid hrf
        clear hrf
        go_wp2_with fail
        refine (keeps_alloc PR.out A1.out n hn1 (by omega)).mono ?_
        rintro e w7 ⟨x7, f7, rfl, hcase, hu⟩
        have B7 := Lib.hid (step_below B1.out hu QQ.out (Nat.le_refl _))
        have M7 := Lib.hid (M1.out.upd hu HS.out)
        have hz7 := hu.size
        clear hu A1 B1 M1
        rcases hcase with ⟨rfl, hno, ha⟩ | ⟨rfl, hex, Bn, s, hs1, hs2, hln, hpn, ha⟩
        · obtain rfl : rf = false := by
            cases rf with
            | false => rfl
            | true =>
              obtain ⟨_, c, hc, hcu, hcz⟩ := HRF.out.1 rfl
              have := hno c hc hcu
              omega
          have A7 := Lib.hid ha
          clear ha hno HRF
          go_wp2_with fail
          refine (kept_any q p b N w2.heap.size Bs _ hs _ A7.out LR.out M7.out PR.out).mono ?_
          rintro e wk ⟨rfl, hbk⟩
          have AK := Lib.hid (A7.out.below hbk)
          have MK := Lib.hid (M7.out.below hbk)
          have BK := Lib.hid (B7.out.trans (hbk.mono B7.out.size))
          have hzk := hbk.size
          clear hbk
          go_wp2
          go_roundg (gk - 1)
          case measure => exact hgg
          case rel => exact ⟨k + 1, Bs, hs, by go_num, by omega, AK.out, LR.out, MK.out, PR.out, BK.out, by omega⟩
        · obtain rfl : rf = true := HRF.out.2 ⟨by omega, hex⟩
          have A7 := Lib.hid ha
          have P7 := Lib.hid hpn
          have L7 := Lib.hid (show 1 + len Bn = N by rw [hln]; exact LR.out)
          have HSZ := Lib.hid (keeps_size (x := (x7, List.replicate s 0)) (hpn.mem_iff.2 (by simp)) ha)
          rw [List.length_replicate] at HSZ
          clear ha hpn hln hex HRF PR LR
          go_wp2_with fail
          refine HSZ.out.mono ?_
          rintro e w8 ⟨rfl, kd8, hkd8⟩
          have A8 := Lib.hid (show Arena q p b Bn w8 by rw [hkd8]; exact A7.out.drewN kd8)
          have M8 := Lib.hid (show HMem w2.heap.size w8 (.slice la nl lc) hs by rw [hkd8]; exact M7.out.drewN kd8)
          have B8 := Lib.hid (show Below W.heap.size W w8 by rw [hkd8]; exact below_drewN B7.out kd8)
          have hz8 : w2.heap.size ≤ w8.heap.size := by rw [hkd8]; show w2.heap.size ≤ w7.heap.size; omega
          clear hkd8 A7 M7 B7 HSZ
          have hs1i : (n : Int) ≤ (s : Int) := by omega
          have hs2i : (s : Int) ≤ (n : Int) + 1 := by omega
          have hn1w : IntKind.i64.wrap ((n : Int) + 1) = (n : Int) + 1 := IntWalk.i64_in _ (by omega)
          have hmk := make_ints s (by omega)
          have M8' := Lib.hid (show w8.ownsRow w2.heap.size 45 2 (.slice la nl lc) nl (hs.flatMap Hl.cells) by have := M8.out.own; rwa [HNL.out] at this)
          have C1 := Lib.hid ((Below.refl w8.heap.size w8).alloc (Nat.le_refl _) (.cells (icells (List.replicate s 0)).toArray 3))
          have hnb := heap_new w8 (.cells (icells (List.replicate s 0)).toArray 3)
          have HNB := Lib.hid hnb
          clear hnb
          go_wp2_with (at_builtin; refine wpList_append_own2 rfl (.tmp 108) (.tmp 113) 38 rfl w2.heap.size 45 i0 (.agg #[.int .i64 0, .slice none 0 0]) 2 32 Try.underlying38 hi0 hz0' hz1 hz2 rfl (by decide) _ _ _ rfl ((M8'.out.alloc _).alloc _) ⟨_, 0, none⟩ 1 1 [.int .i64 x7, .slice (some ⟨w8.heap.size, 0, none⟩) s s] rfl rfl ?ua ?ub ?uc ?ud ?ue ?_)
          case ua =>
            have hna := new_at (w8.alloc (.cells (icells (List.replicate s 0)).toArray 3)) [.int .i64 x7, .slice (some ⟨w8.heap.size, 0, none⟩) s s] 45 _ rfl
            rw [show (w8.alloc (.cells (icells (List.replicate s 0)).toArray 3)).heap.size = w8.heap.size + 1 by simp] at hna
            exact hna
          case ub =>
            intro u hu
            simp only [List.mem_cons, List.not_mem_nil, or_false] at hu
            rcases hu with rfl | rfl <;> rfl
          case uc => unfold maxLen; omega
          case ud => omega
          case ue => simp; omega
          intro v9 w9 own9 hg9 hm9
          have hC := (C1.out.alloc (by simp) (.cells #[.int .i64 x7, .slice (some ⟨w8.heap.size, 0, none⟩) s s] 45))
          have M9 := Lib.hid (M8.out.more (s := s) hz8 hC (heap_alloc_lt HNB.out) (by rw [HNL.out]; exact own9) hg9)
          have BG := Lib.hid ((hC.mono hz8).grown hg9 (by simp; omega) (fun k hk => own_block_ge M8'.out k hk))
          have A9 := Lib.hid (A8.out.belowB BG.out (by have := HS.out; exact ⟨this q (by simp), this p (by simp), this b (by simp)⟩))
          have B9 := Lib.hid (B8.out.trans (BG.out.mono HWS.out))
          have P9 := Lib.hid (show (usedB 1 Bn).Perm ((hs ++ [(⟨x7, w8.heap.size, List.replicate s 0⟩ : Hl)]).map Hl.pr) by rw [List.map_append]; exact P7.out)
          have hz9 := BG.out.size
          obtain ⟨la9, lc9, rfl⟩ := own_form own9
          clear own9 hg9 hm9 hC C1 HNB M8 M8' A8 B8 hmk
          go_wp2_with fail
          refine (kept_any q p b N w2.heap.size Bn _ (hs ++ [(⟨x7, w8.heap.size, List.replicate s 0⟩ : Hl)]) _ A9.out L7.out M9.out P9.out).mono ?_
          rintro e wk ⟨rfl, hbk⟩
          have AK := Lib.hid (A9.out.below hbk)
          have MK := Lib.hid (M9.out.below hbk)
          have BK := Lib.hid (B9.out.trans (hbk.mono B9.out.size))
          have hzk := hbk.size
          clear hbk
          go_wp2
          go_roundg (gk - 1)
          case measure => exact hgg
          case rel => exact ⟨k + 1, Bn, (hs ++ [(⟨x7, w8.heap.size, List.replicate s 0⟩ : Hl)]), by go_num, by omega, AK.out, L7.out, MK.out, P9.out, BK.out, by omega⟩
      · by_cases hpos : 0 < nl
        · have hposi : (0 : Int) < (nl : Int) := by omega
          obtain ⟨kk, hkk0⟩ : ∃ kk, pickN o.a nl = kk := ⟨_, rfl⟩
          have hkk : kk < nl := by rw [← hkk0]; exact pickN_lt _ (by omega)
          have hkki : (kk : Int) < (nl : Int) := by omega
          obtain ⟨y, hy⟩ : ∃ y, hs[kk]? = some y := ⟨_, List.getElem?_eq_getElem (by rw [HNL.out]; exact hkk)⟩
          obtain ⟨ta, da, rfl, hta⟩ : ∃ ta da, hs = ta ++ y :: da ∧ ta.length = kk := ⟨hs.take kk, hs.drop (kk + 1), by
            have h1 := (List.getElem?_eq_some_iff.1 hy)
            rw [← h1.2, List.getElem_cons_drop, List.take_append_drop], by rw [List.length_take, HNL.out]; omega⟩
          have hda : da.length = nl - (kk + 1) := by have := HNL.out; rw [List.length_append, List.length_cons, hta] at this; omega
          have HPK := Lib.hid (pick_any o.a nl wa HOK.out.2.1 (by omega) (by omega))
          rw [hkk0] at HPK
          obtain ⟨gl, hla, hgl, y0, y1, hybb, _⟩ := M0.out.at_ hy
          subst hla
          have PRS := Lib.hid (show (usedB 1 Bs).Perm (ta.map Hl.pr ++ y.pr :: da.map Hl.pr) by have := PR.out; rwa [List.map_append, List.map_cons] at this)
          have hlcn : nl ≤ lc := by
            rcases M0.out.own.2 with ⟨e, _⟩ | ⟨g, cp, cur, e, _, _, hc, _⟩
            · simp at e
            · injection e with e1 e2 e3
              have := HNL.out
              omega
          clear hy hkk0 PR
          have HF := Lib.hid (keeps_free (la := ta.map Hl.pr) (lb := da.map Hl.pr) (y := y.pr) PRS.out A0.out)
          have HYP := Lib.hid (show y.pr.1 = y.ad from rfl)
          rw [HYP.out] at HF
          go_wp2_with fail
          refine HPK.out.mono ?_
          rintro e w' ⟨rfl, rfl⟩
          go_wp2_with fail
          refine HF.out.mono ?_
          rintro e w5 ⟨rfl, ⟨Bn, hln, hpn, han, hnu⟩, hu⟩
          have A5 := Lib.hid han
          have P5 := Lib.hid (show (usedB 1 Bn).Perm ((ta ++ da).map Hl.pr) by rw [List.map_append]; exact hpn)
          have L5 := Lib.hid (show 1 + len Bn = N by rw [hln]; exact LR.out)
          have B5 := Lib.hid (step_below B0.out hu QQ.out (Nat.le_refl _))
          have M5 := Lib.hid (M0.out.upd hu HS.out)
          have hz5 := hu.size
          have HFN := Lib.hid (arena_free_none han y.ad hnu)
          obtain ⟨y0', y1', hybb'⟩ := M5.out.atg (k := kk) (x := y) (by rw [← hta]; simp)
          have hgl' : gl < w5.heap.size := by omega
          clear han hpn hln hu hnu HF A0 M0 B0 LR PRS c0 c1 c2 c3 y0 y1 HYP hybb hybb'
          go_wp2_with fail
          refine HFN.out.mono ?_
          rintro e w' ⟨rfl, rfl⟩
          clear HFN
          obtain ⟨g1', g2', hspA, hspB⟩ := M5.out.split
          have HSA := Lib.hid hspA
          have HSB := Lib.hid hspB
          have HG := Lib.hid g1'
          rw [hta] at HSB
          clear hspA hspB g1' g2' y0' y1'
          have hk1' : kk ≤ lc := by omega
          have hk2' : kk + 1 ≤ lc := by omega
          have hk3 : ((kk : Int) + 1).toNat = kk + 1 := by omega
          have hk4 : IntKind.i64.wrap ((kk : Int) + 1) = (kk : Int) + 1 := IntWalk.i64_in _ (by omega)
          have hk5 : kk + 1 ≤ nl := by omega
          have hk9 : (kk : Int) + 1 ≤ (nl : Int) := by omega
          have hk8 : (0 : Int) ≤ (kk : Int) + 1 := by omega
          have HO1 := Lib.hid (own_new (e := 45) (size := 2) (n := 0) (base := w'.heap.size) (cs := []) (heap_new w' (.cells #[] 45)) (Nat.le_refl _) rfl (by decide))
          have HTK := Lib.hid (show (ta.flatMap Hl.cells).length = kk * 2 by rw [hl_len, hta])
          have HDR := Lib.hid (show (da.flatMap Hl.cells).length = (nl - (kk + 1)) * 2 by rw [hl_len, hda])
          obtain ⟨AD, hif, had⟩ := pick_addrV gl lc kk (nl - 1) (by omega)
          have HAD := Lib.hid had
          clear had
          have HDR2 := Lib.hid (show (da.flatMap Hl.cells).length = (nl - 1 - kk) * 2 by rw [hl_len, hda]; congr 1; omega)
          go_wp2_with fail
          go_region_law (first | (refine step_append_own2 rfl (.tmp 143) (.tmp 146) 38 rfl w'.heap.size 45 i0 (.agg #[.int .i64 0, .slice none 0 0]) 2 32 Try.underlying38 hi0 hz0' hz1 hz2 rfl (by decide) (.slice (some ⟨w'.heap.size, 0, none⟩) 0 0) 0 [] rfl HO1.out ⟨gl, 0, none⟩ kk lc (ta.flatMap Hl.cells) rfl HTK.out (newsV_take (o := .cells #[] 45) HG.out HSA.out) (hl_one _) (by unfold maxLen; omega) (by omega) (by simp) ?_; intro v3 w3 own3 hg3 hm3) | (refine step_append_own2 rfl (.tmp 147) (.tmp 151) 38 rfl w'.heap.size 45 i0 (.agg #[.int .i64 0, .slice none 0 0]) 2 32 Try.underlying38 hi0 hz0' hz1 hz2 rfl (by decide) v3 (0 + kk) _ rfl own3 AD (nl - (kk + 1)) (lc - (kk + 1)) (da.flatMap Hl.cells) (by simp [Act.eval, Act.put]) HDR.out (newsV_any (o := .cells #[] 45) HAD.out HG.out HSB.out hg3 HDR2.out) (hl_one _) (by unfold maxLen; omega) (by omega) (by have := hg3.size; simp at this; omega) ?_; intro v4 w4 own4 hg4 hm4))
          all_goals
            have BG := Lib.hid (two_grown hg3 hg4 (own_block_ge own3))
            have M6 := Lib.hid (M5.out.less BG.out (by
              have h1 := own_mono own4 (show w2.heap.size ≤ w'.heap.size by omega)
              rw [List.nil_append, show 0 + kk + (nl - (kk + 1)) = ta.length + da.length by rw [hta, hda]; omega] at h1
              exact h1))
            have A6 := Lib.hid (A5.out.below BG.out)
            have B6 := Lib.hid (B5.out.trans (BG.out.mono B5.out.size))
            have hz6 := BG.out.size
            clear own3 own4 hg3 hg4 hm3 hm4 M5 A5 B5
            go_wp2_with fail
            refine (kept_any q p b N w2.heap.size Bn _ (ta ++ da) _ A6.out L5.out M6.out P5.out).mono ?_
            rintro e wk ⟨rfl, hbk⟩
            have AK := Lib.hid (A6.out.below hbk)
            have MK := Lib.hid (M6.out.below hbk)
            have BK := Lib.hid (B6.out.trans (hbk.mono B6.out.size))
            have hzk := hbk.size
            clear hbk
            go_wp2
            go_roundg (gk - 1)
            case measure => exact hgg
            case rel => exact ⟨k + 1, Bn, (ta ++ da), by go_num, by omega, AK.out, L5.out, MK.out, P5.out, BK.out, by omega⟩
        · have hposi : ¬ (0 : Int) < (nl : Int) := by omega
          obtain rfl : nl = 0 := by omega
          go_wp2_with fail
          refine (kept_any q p b N w2.heap.size Bs _ hs _ A0.out LR.out M0.out PR.out).mono ?_
          rintro e wk ⟨rfl, hbk⟩
          have AK := Lib.hid (A0.out.below hbk)
          have MK := Lib.hid (M0.out.below hbk)
          have BK := Lib.hid (B0.out.trans (hbk.mono B0.out.size))
          have hzk := hbk.size
          clear hbk
          go_wp2
          go_roundg (gk - 1)
          case measure => exact hgg
          case rel => exact ⟨k + 1, Bs, hs, by go_num, by omega, AK.out, LR.out, MK.out, PR.out, BK.out, by omega⟩
      · by_cases hpos : 0 < nl
        · have hposi : (0 : Int) < (nl : Int) := by omega
          obtain ⟨kk, hkk0⟩ : ∃ kk, pickN o.a nl = kk := ⟨_, rfl⟩
          have hkk : kk < nl := by rw [← hkk0]; exact pickN_lt _ (by omega)
          have hkki : (kk : Int) < (nl : Int) := by omega
          obtain ⟨y, hy⟩ : ∃ y, hs[kk]? = some y := ⟨_, List.getElem?_eq_getElem (by rw [HNL.out]; exact hkk)⟩
          obtain ⟨ta, da, rfl, hta⟩ : ∃ ta da, hs = ta ++ y :: da ∧ ta.length = kk := ⟨hs.take kk, hs.drop (kk + 1), by
            have h1 := (List.getElem?_eq_some_iff.1 hy)
            rw [← h1.2, List.getElem_cons_drop, List.take_append_drop], by rw [List.length_take, HNL.out]; omega⟩
          have hda : da.length = nl - (kk + 1) := by have := HNL.out; rw [List.length_append, List.length_cons, hta] at this; omega
          have HPK := Lib.hid (pick_any o.a nl wa HOK.out.2.1 (by omega) (by omega))
          rw [hkk0] at HPK
          obtain ⟨gl, hla, hgl, y0, y1, hybb, _⟩ := M0.out.at_ hy
          subst hla
          have PRS := Lib.hid (show (usedB 1 Bs).Perm (ta.map Hl.pr ++ y.pr :: da.map Hl.pr) by have := PR.out; rwa [List.map_append, List.map_cons] at this)
          have hlcn : nl ≤ lc := by
            rcases M0.out.own.2 with ⟨e, _⟩ | ⟨g, cp, cur, e, _, _, hc, _⟩
            · simp at e
            · injection e with e1 e2 e3
              have := HNL.out
              omega
          clear hy hkk0 PR
          have hyu := PRS.out.mem_iff.2 (by simp : y.pr ∈ ta.map Hl.pr ++ y.pr :: da.map Hl.pr)
          have hyl : 1 ≤ y.body.length ∧ y.body.length ≤ 2016 := by
            have h1 := usedB_ge hyu
            have e2 : y.pr.2 = y.body := rfl
            have e1 : y.pr.1 = y.ad := rfl
            rw [e1, e2] at h1
            have h2 := LR.out
            obtain ⟨pre, c, post, hB, _, hyc⟩ := mem_usedB hyu
            have h3 := A0.out.1.body c (by rw [hB]; simp)
            have h4 : y.body = c.body := congrArg Prod.snd hyc
            rw [h4] at h1 ⊢
            have := h1.1
            have := h1.2
            omega
          obtain ⟨yl, hyl0⟩ : ∃ yl, y.body.length = yl := ⟨_, rfl⟩
          rw [hyl0] at hyl y1
          have HYL := Lib.hid hyl0
          clear hyu hyl0
          have HO1 := Lib.hid (heap_new wa (.cells #[.int .i64 y.ad, .slice (some ⟨y.bb, 0, none⟩) yl yl] 45))
          have HB1 := Lib.hid ((Below.refl wa.heap.size wa).alloc (Nat.le_refl _) (.cells #[.int .i64 y.ad, .slice (some ⟨y.bb, 0, none⟩) yl yl] 45))
          go_wp2_with fail
          refine HPK.out.mono ?_
          rintro e w' ⟨rfl, rfl⟩
          go_wp2_with fail
          clear y0 y1 c0 c1 c2 c3
          generalize w'.alloc (.cells #[.int .i64 y.ad, .slice (some ⟨y.bb, 0, none⟩) yl yl] 45) = w5 at *
          have A5 := Lib.hid (A0.out.below HB1.out)
          have M5 := Lib.hid (M0.out.below HB1.out)
          have B5 := Lib.hid (B0.out.trans (HB1.out.mono B0.out.size))
          have ho5 := (HB1.out.block go g1).trans HO0.out
          have hz5 := HB1.out.size
          clear A0 M0 B0 HB1 HO0
          generalize w'.heap.size = gx at *
          have hyr := (M5.out.rows y (by simp)).2
          have hyb := (M5.out.rows y (by simp)).1
          have hgy : go ≠ y.bb := by
            rintro rfl
            rw [ho5] at hyr
            simp at hyr
          have hgxy : gx ≠ y.bb := by omega
          obtain ⟨kw, hkw0⟩ : ∃ kw, pickN o.b yl = kw := ⟨_, rfl⟩
          have hkw : kw < yl := by rw [← hkw0]; exact pickN_lt _ (by omega)
          have hkwi : (kw : Int) < (yl : Int) := by omega
          have HPW := Lib.hid (pick_any o.b yl w5 HOK.out.2.2.1 (by omega) (by omega))
          rw [hkw0] at HPW
          obtain ⟨z0, hz0'⟩ : ∃ z, y.body[kw]? = some z := ⟨_, List.getElem?_eq_getElem (by rw [HYL.out]; exact hkw)⟩
          have ck : w5.cell? ⟨y.bb, kw, none⟩ = some (.int .i64 z0) := by
            rw [cells_of hyr, List.getElem?_toArray]
            unfold icells
            rw [List.getElem?_map, hz0']
            rfl
          have fk : w5.frozen? ⟨y.bb, kw, none⟩ = false := free_of hyr kw
          have d1 : w5.cell? ⟨gx, 1, none⟩ = some (.slice (some ⟨y.bb, 0, none⟩) yl yl) := cells_of HO1.out 1
          have c2 : w5.cell? ⟨go, 2, none⟩ = some (.int .i64 o.b) := cells_of ho5 2
          have c3 : w5.cell? ⟨go, 3, none⟩ = some (.int .i64 o.c) := cells_of ho5 3
          have l1 : gx < w5.heap.size := lt_of_block HO1.out
          have l2 : go < w5.heap.size := lt_of_block ho5
          have l3 : y.bb < w5.heap.size := lt_of_block hyr
          have HO5 := Lib.hid ho5
          have hbl : Below w2.heap.size w5 (w5.setCell ⟨y.bb, kw, none⟩ (.int .i64 o.c)) := (Below.refl _ _).setCell (p := ⟨y.bb, kw, none⟩) hyb _
          have A6 := Lib.hid (A5.out.belowB hbl (by have := HS.out; exact ⟨this q (by simp), this p (by simp), this b (by simp)⟩))
          have M6 := Lib.hid (M5.out.put kw o.c)
          have B6 := Lib.hid (B5.out.trans (hbl.mono HWS.out))
          have e0 : (w5.setCell ⟨y.bb, kw, none⟩ (.int .i64 o.c)).cell? ⟨gx, 0, none⟩ = some (.int .i64 y.ad) := cells_of (heap_setCell_ne (p := ⟨y.bb, kw, none⟩) hgxy HO1.out) 0
          have e3 : (w5.setCell ⟨y.bb, kw, none⟩ (.int .i64 o.c)).cell? ⟨go, 3, none⟩ = some (.int .i64 o.c) := cells_of (heap_setCell_ne (p := ⟨y.bb, kw, none⟩) hgy HO5.out) 3
          have E0 := Lib.hid e0
          have E3 := Lib.hid e3
          clear hyr hkw0 hz0' ho5 hbl e0 e3
          refine HPW.out.mono ?_
          rintro e w' ⟨rfl, rfl⟩
          go_upto_region 37 with fail
          clear ck fk d1 c2 c3
          have hz6 : w2.heap.size ≤ (w'.setCell ⟨y.bb, kw, none⟩ (.int .i64 o.c)).heap.size := by
            have : (w'.setCell ⟨y.bb, kw, none⟩ (.int .i64 o.c)).heap.size = w'.heap.size := by simp [World.setCell]
            omega
          have l1' : gx < (w'.setCell ⟨y.bb, kw, none⟩ (.int .i64 o.c)).heap.size := by simp [World.setCell]; omega
          have l2' : go < (w'.setCell ⟨y.bb, kw, none⟩ (.int .i64 o.c)).heap.size := by simp [World.setCell]; omega
          generalize w'.setCell ⟨y.bb, kw, none⟩ (.int .i64 o.c) = w6 at *
          have e0 := E0.out
          have e3 := E3.out
          have HWR := Lib.hid (keeps_write (la := ta.map Hl.pr) (lb := da.map Hl.pr) (x := y.ad) (body := y.body) PRS.out A6.out kw o.c (by rw [HYL.out]; exact hkw))
          go_wp2_with fail
          refine HWR.out.mono ?_
          rintro e w7 ⟨rfl, ⟨Bn, hln, hpn, han⟩, hu⟩
          have A7 := Lib.hid han
          have P7 := Lib.hid (show (usedB 1 Bn).Perm ((ta ++ (⟨y.ad, y.bb, y.body.set kw o.c⟩ : Hl) :: da).map Hl.pr) by rw [List.map_append, List.map_cons]; exact hpn)
          have L7 := Lib.hid (show 1 + len Bn = N by rw [hln]; exact LR.out)
          have B7 := Lib.hid (step_below B6.out hu QQ.out (Nat.le_refl _))
          have M7 := Lib.hid (M6.out.upd hu HS.out)
          have hz7 := hu.size
          clear han hpn hln hu e0 e3 E0 E3 A5 M5 A6 M6 HWR
          go_wp2_with fail
          refine (kept_any q p b N w2.heap.size Bn _ (ta ++ (⟨y.ad, y.bb, y.body.set kw o.c⟩ : Hl) :: da) _ A7.out L7.out M7.out P7.out).mono ?_
          rintro e wk ⟨rfl, hbk⟩
          have AK := Lib.hid (A7.out.below hbk)
          have MK := Lib.hid (M7.out.below hbk)
          have BK := Lib.hid (B7.out.trans (hbk.mono B7.out.size))
          have hzk := hbk.size
          clear hbk
          go_wp2
          go_roundg (gk - 1)
          case measure => exact hgg
          case rel => exact ⟨k + 1, Bn, (ta ++ (⟨y.ad, y.bb, y.body.set kw o.c⟩ : Hl) :: da), by go_num, by omega, AK.out, L7.out, MK.out, P7.out, BK.out, by omega⟩
        · have hposi : ¬ (0 : Int) < (nl : Int) := by omega
          obtain rfl : nl = 0 := by omega
          go_wp2_with fail
          refine (kept_any q p b N w2.heap.size Bs _ hs _ A0.out LR.out M0.out PR.out).mono ?_
          rintro e wk ⟨rfl, hbk⟩
          have AK := Lib.hid (A0.out.below hbk)
          have MK := Lib.hid (M0.out.below hbk)
          have BK := Lib.hid (B0.out.trans (hbk.mono B0.out.size))
          have hzk := hbk.size
          clear hbk
          go_wp2
          go_roundg (gk - 1)
          case measure => exact hgg
          case rel => exact ⟨k + 1, Bs, hs, by go_num, by omega, AK.out, LR.out, MK.out, PR.out, BK.out, by omega⟩
    · by_cases hk1 : k < m
      · have hk1i : (k : Int) < (m : Int) := by omega
        have hk2i : ¬ (k : Int) < 120 := by omega
        go_wp2
        go_ret
        exact ⟨rfl, BR.out⟩
      · have hk1i : ¬ (k : Int) < (m : Int) := by omega
        go_wp2
        go_ret
        exact ⟨rfl, BR.out⟩
end Go.Proofs.Ytmgpimibnogcaaa
