/-
  WALK of ArenaBest.
-/
import Derived.Test.YtmgpimibnogcaaaLw
set_option linter.unusedVariables false
set_option linter.unusedSimpArgs false
namespace Go.Proofs.Ytmgpimibnogcaaa
open Go.RowKit

set_option maxRecDepth 1000000 in
set_option maxHeartbeats 6400000 in
theorem best_walk (x : Int) (ops : List Op) (v : Value) (n0 : Int) (W : World) (hx : InI x) (hn : InI n0) (hr : ORow W.heap.size W v ops) :
    Calls Try.prog 7 #[.int .i64 x, v, .int .i64 n0] W fun e w' => e = .returned (.bool true) ∧ Below W.heap.size W w' := by
  obtain ⟨A, cap, rfl, _, hm⟩ := hr.form
  unfold maxLen at hm
  have HR := Lib.hid hr
  have HN := Lib.hid hn
  have HX := Lib.hid hx
  obtain ⟨m, hmm⟩ : ∃ m, ops.length = m := ⟨_, rfl⟩
  rw [hmm] at hm HR ⊢
  have HMM := Lib.hid hmm
  clear hr hn hx hmm
  go_enter Try.func7, Try.ntmps7
  go_wp2_with fail
  refine (shown_any W).mono ?_
  rintro e w1 ⟨rfl, hb1⟩
  have B1 := Lib.hid hb1
  clear hb1
  go_wp2_with fail
  refine (pick_any x 1000 w1 HX.out (by decide) (by decide)).mono ?_
  rintro e w' ⟨rfl, rfl⟩
  have hN1 : 16 ≤ 16 + pickN x 1000 := by omega
  have hN2 : 16 + pickN x 1000 ≤ 1016 := by have := pickN_lt x (n := 1000) (by decide); omega
  have hNw : IntKind.i64.wrap (16 + (pickN x 1000 : Int)) = ((16 + pickN x 1000 : Nat) : Int) := by rw [IntWalk.i64_in _ (by omega)]; omega
  generalize hN : 16 + pickN x 1000 = N at *
  clear hN
  go_wp2_with fail
  refine (new_any N w' hN1 (by omega)).mono ?_
  rintro e w2 ⟨q, p, b, rfl, ha, hq, hb⟩
  have A2 := Lib.hid ha
  have QQ := Lib.hid (show W.heap.size ≤ q ∧ W.heap.size ≤ p ∧ W.heap.size ≤ b by have := B1.out.size; omega)
  have B2 := Lib.hid (B1.out.trans (hb.mono B1.out.size))
  have L2 := Lib.hid (show 1 + len [freeBk (N - 1)] = N by rw [len_cons, len_nil, freeBk_sz (by omega)]; omega)
  clear ha hq hb B1 hNw
  go_wp2
  go_loopg [10] 80 (fun g iv wr => ∃ (k : Nat) (Bs : List Blk), iv = .int .i64 (k : Int) ∧ k + g = 80 ∧ Arena q p b Bs wr ∧ 1 + len Bs = N ∧ Below W.heap.size W wr)
  case atStart => exact ⟨0, _, rfl, rfl, A2.out, L2.out, B2.out⟩
  case round =>
    obtain ⟨k, Bs, rfl, hkg, ha, hl, hb⟩ := hrel
    have AR := Lib.hid ha
    have BR := Lib.hid hb
    have LR := Lib.hid hl
    clear ha hb hl A2 B2 L2
    by_cases hk : k < m ∧ k < 80
    · obtain ⟨hk1, hk2⟩ := hk
      have hk1i : (k : Int) < (m : Int) := by omega
      have hk2i : (k : Int) < 80 := by omega
      have hgg : gk - 1 < gk := by omega
      obtain ⟨o, ho⟩ : ∃ o, ops[k]? = some o := ⟨_, List.getElem?_eq_getElem (by rw [HMM.out]; exact hk1)⟩
      go_wp2_with fail
      refine (used_any q p b Bs _ AR.out).mono ?_
      rintro e w3 ⟨lv, rfl, hol, hbl⟩
      obtain ⟨la, lc, rfl⟩ := hol.form
      have OL := Lib.hid hol
      have A3 := Lib.hid (AR.out.below hbl)
      have B3 := Lib.hid (BR.out.trans (hbl.mono BR.out.size))
      clear hol hbl AR BR
      obtain ⟨hok, bo, oo, rfl, hbo, c0, c1, c2, c3, c4⟩ := (HR.out.below B3.out (Nat.le_refl _)).at_ ho
      have HOK := Lib.hid hok
      have hbs : bo < w3.heap.size := Nat.lt_of_lt_of_le hbo B3.out.size
      clear hok ho
      generalize hU : usedL 1 Bs = U at *
      have HU := Lib.hid hU
      clear hU
      generalize hnu : U.length = nu at *
      go_wp2_with fail
      refine (pick_any o.k 3 _ HOK.out.1 (by decide) (by decide)).mono ?_
      rintro e w' ⟨rfl, rfl⟩
      generalize pickN o.k 3 = t at *
      by_cases ht : 0 < t
      · have hti : (0 : Int) < (t : Int) := by omega
        go_wp2_with fail
        refine (pick_any o.b 20 _ HOK.out.2.2.1 (by decide) (by decide)).mono ?_
        rintro e w' ⟨rfl, rfl⟩
        have hp20 := pickN_lt o.b (n := 20) (by decide)
        have hw20 : IntKind.i64.wrap (1 + (pickN o.b 20 : Int)) = ((1 + pickN o.b 20 : Nat) : Int) := by rw [IntWalk.i64_in _ (by omega)]; omega
        generalize pickN o.b 20 = z at *
        go_wp2_with fail
        refine (alloc_some A3.out (1 + z) (by omega) (by omega)).mono ?_
        rintro e w4 ⟨x4, y4, Bs', rfl, ha, hl, hu⟩
        have A4 := Lib.hid ha
        have B4 := Lib.hid (step_below B3.out hu QQ.out (Nat.le_refl _))
        clear ha hu A3 B3 c0 c1 c2 c3 c4
        go_wp2
        go_roundg (gk - 1)
        case measure => exact hgg
        case rel => exact ⟨k + 1, Bs', by go_num, by omega, A4.out, by rw [hl, LR.out], B4.out⟩
      · obtain rfl : t = 0 := by omega
        by_cases hnz : nu = 0
        · subst hnz
          go_wp2_with fail
          refine (pick_any o.b 20 _ HOK.out.2.2.1 (by decide) (by decide)).mono ?_
          rintro e w' ⟨rfl, rfl⟩
          have hp20 := pickN_lt o.b (n := 20) (by decide)
          have hw20 : IntKind.i64.wrap (1 + (pickN o.b 20 : Int)) = ((1 + pickN o.b 20 : Nat) : Int) := by rw [IntWalk.i64_in _ (by omega)]; omega
          generalize pickN o.b 20 = z at *
          go_wp2_with fail
          refine (alloc_some A3.out (1 + z) (by omega) (by omega)).mono ?_
          rintro e w4 ⟨x4, y4, Bs', rfl, ha, hl, hu⟩
          have A4 := Lib.hid ha
          have B4 := Lib.hid (step_below B3.out hu QQ.out (Nat.le_refl _))
          clear ha hu A3 B3 c0 c1 c2 c3 c4
          go_wp2
          go_roundg (gk - 1)
          case measure => exact hgg
          case rel => exact ⟨k + 1, Bs', by go_num, by omega, A4.out, by rw [hl, LR.out], B4.out⟩
        · have hnzi : ((nu : Int) == 0) = false := by rw [beq_eq_false_iff_ne]; omega
          have hnu0 : 0 < nu := by omega
          have hnu1 : nu ≤ 1048576 := by
            have h1 := usedL_length 1 Bs
            rw [HU.out, hnu] at h1
            have h2 := LR.out
            omega
          obtain ⟨z, hz⟩ : ∃ z, U[pickN o.a nu]? = some z := ⟨_, List.getElem?_eq_getElem (by rw [hnu]; exact pickN_lt _ hnu0)⟩
          obtain ⟨bl, ol, rfl, hbl, cl⟩ := IRow.at_ (Row.of_own OL.out) hz
          have hpl := pickN_lt o.a hnu0
          have hpli : (pickN o.a nu : Int) < (nu : Int) := by omega
          have HF := Lib.hid (free_some A3.out z (by rw [HU.out]; exact List.mem_of_getElem? hz))
          clear hz
          go_wp2_with fail
          refine (pick_any o.a nu _ HOK.out.2.1 hnu0 hnu1).mono ?_
          rintro e w' ⟨rfl, rfl⟩
          go_wp2_with fail
          refine (HF.out).mono ?_
          rintro e w4 ⟨Bs', rfl, ha, hl, hu⟩
          have A4 := Lib.hid ha
          have B4 := Lib.hid (step_below B3.out hu QQ.out (Nat.le_refl _))
          clear ha hu A3 B3 c0 c1 c2 c3 c4 HF cl
          go_wp2
          go_roundg (gk - 1)
          case measure => exact hgg
          case rel => exact ⟨k + 1, Bs', by go_num, by omega, A4.out, by rw [hl, LR.out], B4.out⟩
    · by_cases hk1 : k < m
      · have hk1i : (k : Int) < (m : Int) := by omega
        have hk2i : ¬ (k : Int) < 80 := by omega
        go_wp2_with fail
        refine (pick_any n0 60 _ HN.out (by decide) (by decide)).mono ?_
        rintro e w' ⟨rfl, rfl⟩
        have hp60 := pickN_lt n0 (n := 60) (by decide)
        have hw60 : IntKind.i64.wrap (1 + (pickN n0 60 : Int)) = ((1 + pickN n0 60 : Nat) : Int) := by rw [IntWalk.i64_in _ (by omega)]; omega
        obtain ⟨n, hn⟩ : ∃ n, 1 + pickN n0 60 = n := ⟨_, rfl⟩
        have hn1 : 1 ≤ n := by omega
        have hn2 : n ≤ 60 := by omega
        rw [hn] at hw60
        clear hn hp60
        go_wp2
        go_loopg [12, 13, 14] Bs.length (fun g bv sv av wx => ∃ (pre rest : List Blk) (best size : Nat), Bs = pre ++ rest ∧ rest.length = g ∧ bv = .int .i64 (best : Int) ∧ sv = .int .i64 (size : Int) ∧ av = .int .i64 ((1 + len pre : Nat) : Int) ∧ Sel n pre best size ∧ wx = w')
        case atStart => exact ⟨[], Bs, 0, 0, rfl, rfl, rfl, rfl, rfl, Sel.start _ _, rfl⟩
        case round =>
          obtain ⟨pre, rest, best, size, hBs, hg, rfl, rfl, rfl, hsel, rfl⟩ := hrel
          have HSEL := Lib.hid hsel
          clear hsel
          cases rest with
          | nil =>
            rw [List.append_nil] at hBs
            subst hBs
            have hge : ¬ ((1 + len Bs : Nat) : Int) < (N : Int) := by have := LR.out; omega
            by_cases hb0 : 0 < best
            · have hb0i : (0 : Int) < (best : Int) := by omega
              have hb0j : ((best : Int) == 0) = false := by rw [beq_eq_false_iff_ne]; omega
              have HF := Lib.hid (fits_sel HSEL.out AR.out hn1 (by omega))
              have HA := Lib.hid (fun kd => alloc_sel HSEL.out (AR.out.drewN kd) hn1 (by omega))
              rw [decide_eq_true hb0] at HF
              simp only [if_pos hb0] at HA
              go_wp2_with fail
              refine HF.out.mono ?_
              rintro e w4 ⟨rfl, kd, rfl⟩
              go_wp2_with fail
              refine (HA.out kd).mono ?_
              rintro e w5 ⟨rfl, _, hu⟩
              have B5 := Lib.hid (step_below (below_drewN BR.out kd) hu QQ.out (Nat.le_refl _))
              clear hu
              go_wp2
              go_ret
              exact ⟨rfl, B5.out⟩
            · obtain rfl : best = 0 := by omega
              have HF := Lib.hid (fits_sel HSEL.out AR.out hn1 (by omega))
              have HA := Lib.hid (fun kd => alloc_sel HSEL.out (AR.out.drewN kd) hn1 (by omega))
              rw [decide_eq_false hb0] at HF
              simp only [if_neg hb0] at HA
              go_wp2_with fail
              refine HF.out.mono ?_
              rintro e w4 ⟨rfl, kd, rfl⟩
              go_wp2_with fail
              refine (HA.out kd).mono ?_
              rintro e w5 ⟨rfl, _, hu⟩
              have B5 := Lib.hid (step_below (below_drewN BR.out kd) hu QQ.out (Nat.le_refl _))
              clear hu
              go_wp2
              go_ret
              exact ⟨rfl, B5.out⟩
          | cons c r =>
            have HRAW := Lib.hid (arena_raw_at hBs AR.out)
            have hat : At Bs (1 + len pre) c := ⟨pre, r, hBs, rfl⟩
            obtain ⟨hh1, hh2, hh3⟩ := hat.head AR.out.1
            have hlt : ((1 + len pre : Nat) : Int) < (N : Int) := by have := LR.out; have := hat.facts.2.1; rw [words_length] at this; omega
            have hgg2 : r.length < gk := by rw [← hg, List.length_cons]; omega
            have HX := Lib.hid (show 1 + len pre + c.sz = 1 + len (pre ++ [c]) by rw [len_append, len_cons, len_nil]; omega)
            have HB := Lib.hid (show Bs = (pre ++ [c]) ++ r by rw [hBs]; simp)
            have hcs : c.sz ≤ 1048576 := by have := hat.fits; rw [words_length] at this; have := LR.out; omega
            have hcs1 : 1 ≤ c.sz := by unfold Blk.sz; omega
            have hw1 : IntKind.i64.wrap (((1 + len pre : Nat) : Int) + (c.sz : Int)) = ((1 + len pre : Nat) : Int) + (c.sz : Int) := IntWalk.i64_in _ (by omega)
            have hdv := c.hd_half
            have hmd := c.hd_mod
            clear hat hh1 hBs hg
            generalize hn : 1 + len pre = a at *
            have HN1 := Lib.hid hn
            clear hn
            generalize c.hd = hd at *
            cases hu : c.us with
            | true =>
              rw [if_pos hu] at hmd
              have HU := Lib.hid hu
              clear hu
              go_wp2_with fail
              refine (HRAW.out).mono ?_
              rintro e w' ⟨rfl, rfl⟩
              go_wp2
              go_roundg r.length
              case measure => exact hgg2
              case rel => exact ⟨pre ++ [c], r, best, size, HB.out, rfl, rfl, rfl, by rw [← HX.out]; rfl, HSEL.out.pass (fun h => by rw [HU.out] at h; exact Bool.noConfusion h.1), rfl⟩
            | false =>
              rw [if_neg (by rw [hu]; decide)] at hmd
              have HU := Lib.hid hu
              clear hu
              by_cases hz : n + 1 ≤ c.sz
              · have hzi : (n : Int) ≤ (c.sz : Int) - 1 := by omega
                by_cases hb : best = 0
                · subst hb
                  go_wp2_with fail
                  refine (HRAW.out).mono ?_
                  rintro e w' ⟨rfl, rfl⟩
                  go_wp2
                  go_roundg r.length
                  case measure => exact hgg2
                  case rel => exact ⟨pre ++ [c], r, a, c.sz, HB.out, rfl, rfl, by rw [hdv], by first | (rw [← HX.out]; rfl) | (rw [hdv, ← HX.out]; rfl), by rw [← HN1.out]; exact HSEL.out.take HU.out (by omega) (.inl rfl), rfl⟩
                · have hbi : ((best : Int) == 0) = false := by rw [beq_eq_false_iff_ne]; omega
                  by_cases hs : c.sz < size
                  · have hsi : (c.sz : Int) < (size : Int) := by omega
                    go_wp2_with fail
                    refine (HRAW.out).mono ?_
                    rintro e w' ⟨rfl, rfl⟩
                    go_wp2
                    go_roundg r.length
                    case measure => exact hgg2
                    case rel => exact ⟨pre ++ [c], r, a, c.sz, HB.out, rfl, rfl, by rw [hdv], by first | (rw [← HX.out]; rfl) | (rw [hdv, ← HX.out]; rfl), by rw [← HN1.out]; exact HSEL.out.take HU.out (by omega) (.inr hs), rfl⟩
                  · have hsi : ¬ (c.sz : Int) < (size : Int) := by omega
                    go_wp2_with fail
                    refine (HRAW.out).mono ?_
                    rintro e w' ⟨rfl, rfl⟩
                    go_wp2
                    go_roundg r.length
                    case measure => exact hgg2
                    case rel => exact ⟨pre ++ [c], r, best, size, HB.out, rfl, rfl, rfl, by rw [← HX.out]; rfl, HSEL.out.pass (fun h => by omega), rfl⟩
              · have hzi : ¬ (n : Int) ≤ (c.sz : Int) - 1 := by omega
                go_wp2_with fail
                refine (HRAW.out).mono ?_
                rintro e w' ⟨rfl, rfl⟩
                go_wp2
                go_roundg r.length
                case measure => exact hgg2
                case rel => exact ⟨pre ++ [c], r, best, size, HB.out, rfl, rfl, rfl, by rw [← HX.out]; rfl, HSEL.out.pass (fun h => hz h.2.1), rfl⟩
      · have hk1i : ¬ (k : Int) < (m : Int) := by omega
        go_wp2_with fail
        refine (pick_any n0 60 _ HN.out (by decide) (by decide)).mono ?_
        rintro e w' ⟨rfl, rfl⟩
        have hp60 := pickN_lt n0 (n := 60) (by decide)
        have hw60 : IntKind.i64.wrap (1 + (pickN n0 60 : Int)) = ((1 + pickN n0 60 : Nat) : Int) := by rw [IntWalk.i64_in _ (by omega)]; omega
        obtain ⟨n, hn⟩ : ∃ n, 1 + pickN n0 60 = n := ⟨_, rfl⟩
        have hn1 : 1 ≤ n := by omega
        have hn2 : n ≤ 60 := by omega
        rw [hn] at hw60
        clear hn hp60
        go_wp2
        go_loopg [12, 13, 14] Bs.length (fun g bv sv av wx => ∃ (pre rest : List Blk) (best size : Nat), Bs = pre ++ rest ∧ rest.length = g ∧ bv = .int .i64 (best : Int) ∧ sv = .int .i64 (size : Int) ∧ av = .int .i64 ((1 + len pre : Nat) : Int) ∧ Sel n pre best size ∧ wx = w')
        case atStart => exact ⟨[], Bs, 0, 0, rfl, rfl, rfl, rfl, rfl, Sel.start _ _, rfl⟩
        case round =>
          obtain ⟨pre, rest, best, size, hBs, hg, rfl, rfl, rfl, hsel, rfl⟩ := hrel
          have HSEL := Lib.hid hsel
          clear hsel
          cases rest with
          | nil =>
            rw [List.append_nil] at hBs
            subst hBs
            have hge : ¬ ((1 + len Bs : Nat) : Int) < (N : Int) := by have := LR.out; omega
            by_cases hb0 : 0 < best
            · have hb0i : (0 : Int) < (best : Int) := by omega
              have hb0j : ((best : Int) == 0) = false := by rw [beq_eq_false_iff_ne]; omega
              have HF := Lib.hid (fits_sel HSEL.out AR.out hn1 (by omega))
              have HA := Lib.hid (fun kd => alloc_sel HSEL.out (AR.out.drewN kd) hn1 (by omega))
              rw [decide_eq_true hb0] at HF
              simp only [if_pos hb0] at HA
              go_wp2_with fail
              refine HF.out.mono ?_
              rintro e w4 ⟨rfl, kd, rfl⟩
              go_wp2_with fail
              refine (HA.out kd).mono ?_
              rintro e w5 ⟨rfl, _, hu⟩
              have B5 := Lib.hid (step_below (below_drewN BR.out kd) hu QQ.out (Nat.le_refl _))
              clear hu
              go_wp2
              go_ret
              exact ⟨rfl, B5.out⟩
            · obtain rfl : best = 0 := by omega
              have HF := Lib.hid (fits_sel HSEL.out AR.out hn1 (by omega))
              have HA := Lib.hid (fun kd => alloc_sel HSEL.out (AR.out.drewN kd) hn1 (by omega))
              rw [decide_eq_false hb0] at HF
              simp only [if_neg hb0] at HA
              go_wp2_with fail
              refine HF.out.mono ?_
              rintro e w4 ⟨rfl, kd, rfl⟩
              go_wp2_with fail
              refine (HA.out kd).mono ?_
              rintro e w5 ⟨rfl, _, hu⟩
              have B5 := Lib.hid (step_below (below_drewN BR.out kd) hu QQ.out (Nat.le_refl _))
              clear hu
              go_wp2
              go_ret
              exact ⟨rfl, B5.out⟩
          | cons c r =>
            have HRAW := Lib.hid (arena_raw_at hBs AR.out)
            have hat : At Bs (1 + len pre) c := ⟨pre, r, hBs, rfl⟩
            obtain ⟨hh1, hh2, hh3⟩ := hat.head AR.out.1
            have hlt : ((1 + len pre : Nat) : Int) < (N : Int) := by have := LR.out; have := hat.facts.2.1; rw [words_length] at this; omega
            have hgg2 : r.length < gk := by rw [← hg, List.length_cons]; omega
            have HX := Lib.hid (show 1 + len pre + c.sz = 1 + len (pre ++ [c]) by rw [len_append, len_cons, len_nil]; omega)
            have HB := Lib.hid (show Bs = (pre ++ [c]) ++ r by rw [hBs]; simp)
            have hcs : c.sz ≤ 1048576 := by have := hat.fits; rw [words_length] at this; have := LR.out; omega
            have hcs1 : 1 ≤ c.sz := by unfold Blk.sz; omega
            have hw1 : IntKind.i64.wrap (((1 + len pre : Nat) : Int) + (c.sz : Int)) = ((1 + len pre : Nat) : Int) + (c.sz : Int) := IntWalk.i64_in _ (by omega)
            have hdv := c.hd_half
            have hmd := c.hd_mod
            clear hat hh1 hBs hg
            generalize hn : 1 + len pre = a at *
            have HN1 := Lib.hid hn
            clear hn
            generalize c.hd = hd at *
            cases hu : c.us with
            | true =>
              rw [if_pos hu] at hmd
              have HU := Lib.hid hu
              clear hu
              go_wp2_with fail
              refine (HRAW.out).mono ?_
              rintro e w' ⟨rfl, rfl⟩
              go_wp2
              go_roundg r.length
              case measure => exact hgg2
              case rel => exact ⟨pre ++ [c], r, best, size, HB.out, rfl, rfl, rfl, by rw [← HX.out]; rfl, HSEL.out.pass (fun h => by rw [HU.out] at h; exact Bool.noConfusion h.1), rfl⟩
            | false =>
              rw [if_neg (by rw [hu]; decide)] at hmd
              have HU := Lib.hid hu
              clear hu
              by_cases hz : n + 1 ≤ c.sz
              · have hzi : (n : Int) ≤ (c.sz : Int) - 1 := by omega
                by_cases hb : best = 0
                · subst hb
                  go_wp2_with fail
                  refine (HRAW.out).mono ?_
                  rintro e w' ⟨rfl, rfl⟩
                  go_wp2
                  go_roundg r.length
                  case measure => exact hgg2
                  case rel => exact ⟨pre ++ [c], r, a, c.sz, HB.out, rfl, rfl, by rw [hdv], by first | (rw [← HX.out]; rfl) | (rw [hdv, ← HX.out]; rfl), by rw [← HN1.out]; exact HSEL.out.take HU.out (by omega) (.inl rfl), rfl⟩
                · have hbi : ((best : Int) == 0) = false := by rw [beq_eq_false_iff_ne]; omega
                  by_cases hs : c.sz < size
                  · have hsi : (c.sz : Int) < (size : Int) := by omega
                    go_wp2_with fail
                    refine (HRAW.out).mono ?_
                    rintro e w' ⟨rfl, rfl⟩
                    go_wp2
                    go_roundg r.length
                    case measure => exact hgg2
                    case rel => exact ⟨pre ++ [c], r, a, c.sz, HB.out, rfl, rfl, by rw [hdv], by first | (rw [← HX.out]; rfl) | (rw [hdv, ← HX.out]; rfl), by rw [← HN1.out]; exact HSEL.out.take HU.out (by omega) (.inr hs), rfl⟩
                  · have hsi : ¬ (c.sz : Int) < (size : Int) := by omega
                    go_wp2_with fail
                    refine (HRAW.out).mono ?_
                    rintro e w' ⟨rfl, rfl⟩
                    go_wp2
                    go_roundg r.length
                    case measure => exact hgg2
                    case rel => exact ⟨pre ++ [c], r, best, size, HB.out, rfl, rfl, rfl, by rw [← HX.out]; rfl, HSEL.out.pass (fun h => by omega), rfl⟩
              · have hzi : ¬ (n : Int) ≤ (c.sz : Int) - 1 := by omega
                go_wp2_with fail
                refine (HRAW.out).mono ?_
                rintro e w' ⟨rfl, rfl⟩
                go_wp2
                go_roundg r.length
                case measure => exact hgg2
                case rel => exact ⟨pre ++ [c], r, best, size, HB.out, rfl, rfl, rfl, by rw [← HX.out]; rfl, HSEL.out.pass (fun h => hz h.2.1), rfl⟩
end Go.Proofs.Ytmgpimibnogcaaa
