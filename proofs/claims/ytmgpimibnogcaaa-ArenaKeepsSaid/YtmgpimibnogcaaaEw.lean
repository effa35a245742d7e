/-
  WALK of ArenaEmpties.
-/
import Derived.Test.YtmgpimibnogcaaaEm
import Derived.Deep.RegionLaw
import Derived.Deep.DeepCutAuto
set_option linter.unusedVariables false
set_option linter.unusedSimpArgs false
namespace Go.Proofs.Ytmgpimibnogcaaa
open Go.RowKit

theorem own_cells {w : World} {base bl n c : Nat} {l : List Int} (h : IOwn w base (.slice (some ⟨bl, 0, none⟩) n c) l) : bl < w.heap.size ∧ base ≤ bl ∧ ∀ j y, l[j]? = some y → w.cell? ⟨bl, j, none⟩ = some (.int .i64 y) := by
  refine ⟨(h.lt bl rfl).2, own_block_ge h bl rfl, fun j y hy => ?_⟩
  have := h.cells (g := bl) rfl j (.int .i64 y) (by unfold icells; rw [List.getElem?_map, hy]; rfl)
  rw [plain_add, Nat.zero_add] at this
  exact this
theorem own_row {w : World} {base n c : Nat} {A : Option Addr} {l : List Int} (h : IOwn w base (.slice A n c) l) (hl : l.length = n) (h0 : 0 < n) : ∃ bl, A = some ⟨bl, 0, none⟩ ∧ n ≤ c ∧ bl < w.heap.size ∧ ∀ j y, l[j]? = some y → w.cell? ⟨bl, j, none⟩ = some (.int .i64 y) := by
  have h' := h
  rcases h.2 with ⟨e, h1⟩ | ⟨g, cap, cur, e, _, _, hc, _⟩
  · omega
  · injection e with e1 e2 e3
    subst e1
    refine ⟨g, rfl, by omega, (own_cells h').1, (own_cells h').2.2⟩
theorem news_take {w : World} {base bl k : Nat} {l : List Int} {o : Obj} (h : bl < w.heap.size ∧ base ≤ bl ∧ ∀ j y, l[j]? = some y → w.cell? ⟨bl, j, none⟩ = some (.int .i64 y)) :
    ∀ j u, (icells (l.take k))[j]? = some u → (w.alloc o).drew.cell? (({ block := bl, off := 0 } : Addr).add j) = some u := by
  intro j u hu
  unfold icells at hu
  rw [List.getElem?_map, Option.map_eq_some_iff] at hu
  obtain ⟨y, hy, rfl⟩ := hu
  rw [plain_add, Nat.zero_add]
  rw [List.getElem?_take] at hy
  split at hy
  · show (w.alloc o).cell? _ = _
    rw [World.cell?_alloc_lt w o _ h.1]
    exact h.2.2 j y hy
  · simp at hy
theorem news_none {w : World} {a : Addr} {l : List Value} {k : Nat} (h : l.length = k * 1) (h0 : k = 0) : ∀ j u, l[j]? = some u → w.cell? (a.add j) = some u := by
  intro j u hu
  subst h0
  obtain rfl : l = [] := List.eq_nil_of_length_eq_zero (by omega)
  simp at hu
theorem news_drop {w w3 : World} {base bl k : Nat} {l : List Int} {o : Obj} (h : bl < w.heap.size ∧ base ≤ bl ∧ ∀ j y, l[j]? = some y → w.cell? ⟨bl, j, none⟩ = some (.int .i64 y)) (hg : (w.alloc o).drew.grownBy w3 (some w.heap.size)) :
    ∀ j u, (icells (l.drop (k + 1)))[j]? = some u → w3.cell? (({ block := bl, off := k + 1 } : Addr).add j) = some u := by
  intro j u hu
  unfold icells at hu
  rw [List.getElem?_map, Option.map_eq_some_iff] at hu
  obtain ⟨y, hy, rfl⟩ := hu
  rw [List.getElem?_drop] at hy
  rw [plain_add]
  have h1 := h.2.2 _ _ hy
  have h2 : w3.heap[bl]? = (w.alloc o).heap[bl]? := hg.block bl (by show bl < (w.alloc o).heap.size; simp; have := h.1; omega) (by intro e; injection e with e; have := h.1; omega)
  rw [Below.heap_alloc _ _ _ h.1] at h2
  rw [← h1]
  exact World.cell?_of_block (w := w) h2
/-- Where a row's rest begins. -/
theorem pick_addr (bl c k g : Nat) (hc : g + 1 ≤ c) : ∃ AD : Addr, (if c = k + 1 then some ({ block := bl, off := 0 } : Addr) else some { block := bl, off := k + 1 }) = some AD ∧ (AD = ⟨bl, k + 1, none⟩ ∨ g ≤ k) := by
  by_cases h : c = k + 1
  · exact ⟨_, by rw [if_pos h], .inr (by omega)⟩
  · exact ⟨_, by rw [if_neg h], .inl rfl⟩
theorem news_any {w w3 : World} {base bl k g : Nat} {l : List Int} {o : Obj} {AD : Addr} (hA : AD = ⟨bl, k + 1, none⟩ ∨ g ≤ k) (h : bl < w.heap.size ∧ base ≤ bl ∧ ∀ j y, l[j]? = some y → w.cell? ⟨bl, j, none⟩ = some (.int .i64 y)) (hg : (w.alloc o).drew.grownBy w3 (some w.heap.size)) (hl : (icells (l.drop (k + 1))).length = (g - k) * 1) :
    ∀ j u, (icells (l.drop (k + 1)))[j]? = some u → w3.cell? (AD.add j) = some u := by
  rcases hA with rfl | hA
  · exact news_drop h hg
  · exact news_none hl (by omega)
theorem two_grown {w w3 w4 : World} {o : Obj} {v3 : Value} (h1 : (w.alloc o).drew.grownBy w3 (some w.heap.size)) (h2 : w3.grownBy w4 v3.ownBlock) (h3 : ∀ k, v3.ownBlock = some k → w.heap.size ≤ k) : Below w.heap.size w w4 :=
  ((((Below.refl _ w).alloc (Nat.le_refl _) o).drew).grown h1 (by show w.heap.size ≤ (w.alloc o).heap.size; simp) (fun k hk => by injection hk with hk; omega)).grown h2 (by have := h1.size; have e : (w.alloc o).drew.heap.size = w.heap.size + 1 := by show (w.alloc o).heap.size = _; simp
                                                                                                                                                                             omega) h3
set_option maxRecDepth 1000000 in
set_option maxHeartbeats 12800000 in
theorem empties_walk (x : Int) (sizes : List Int) (vs : Value) (order : List Int) (vo : Value) (W : World) (hx : InI x) (hsz : NumRow W.heap.size W vs sizes) (hor : NumRow W.heap.size W vo order) :
    Calls Try.prog 5 #[.int .i64 x, vs, vo] W fun e w' => e = .returned (.bool true) ∧ Below W.heap.size W w' := by
  obtain ⟨A5, cap5, rfl, _, hm5⟩ := hsz.1.form
  obtain ⟨A6, cap6, rfl, _, hm6⟩ := hor.1.form
  unfold maxLen at hm5 hm6
  have HX := Lib.hid hx
  have HSZ := Lib.hid hsz
  have HOR := Lib.hid hor
  obtain ⟨m5, hmm5⟩ : ∃ m5, sizes.length = m5 := ⟨_, rfl⟩
  obtain ⟨m6, hmm6⟩ : ∃ m6, order.length = m6 := ⟨_, rfl⟩
  rw [hmm5] at hm5 HSZ ⊢
  rw [hmm6] at hm6 HOR ⊢
  have HMM5 := Lib.hid hmm5
  have HMM6 := Lib.hid hmm6
  obtain ⟨i0, hi0, hz0, hz1, hz2⟩ := info3
  clear hor hx hsz hmm5 hmm6
  go_enter Try.func5, Try.ntmps5
  go_wp2_with fail
  refine (shown_any W).mono ?_
  rintro e w1 ⟨rfl, hb1⟩
  have B1 := Lib.hid hb1
  clear hb1
  go_wp2_with fail
  refine (pick_any x 2000 w1 HX.out (by decide) (by decide)).mono ?_
  rintro e w' ⟨rfl, rfl⟩
  have hN1 : 16 ≤ 16 + pickN x 2000 := by omega
  have hN2 : 16 + pickN x 2000 ≤ 2016 := by have := pickN_lt x (n := 2000) (by decide); omega
  have hNw : IntKind.i64.wrap (16 + (pickN x 2000 : Int)) = ((16 + pickN x 2000 : Nat) : Int) := by rw [IntWalk.i64_in _ (by omega)]; omega
  generalize hN : 16 + pickN x 2000 = N at *
  clear hN
  go_wp2_with fail
  refine (new_any N w' hN1 (by omega)).mono ?_
  rintro e w2 ⟨q, p, b, rfl, ha, hq, hb⟩
  have A2 := Lib.hid ha
  have QQ := Lib.hid (show W.heap.size ≤ q ∧ W.heap.size ≤ p ∧ W.heap.size ≤ b by have := B1.out.size; omega)
  have B2 := Lib.hid (B1.out.trans (hb.mono B1.out.size))
  have L2 := Lib.hid (show 1 + len [freeBk (N - 1)] = N by rw [len_cons, len_nil, freeBk_sz (by omega)]; omega)
  have HS := Lib.hid ha.lt
  have HWS := Lib.hid B2.out.size
  clear ha hq hb B1 hNw
  go_wp2
  go_loopg [10, 11] 100 (fun g v iv wx => ∃ (j : Nat) (ls : List Int) (Bs : List Blk), iv = .int .i64 (j : Int) ∧ j + g = 100 ∧ ls.length ≤ j ∧ (usedL 1 Bs).Perm ls ∧ Arena q p b Bs wx ∧ IOwn wx w2.heap.size v ls ∧ 1 + len Bs = N ∧ Below W.heap.size W wx ∧ w2.heap.size ≤ wx.heap.size)
  case atStart => exact ⟨0, [], _, rfl, rfl, Nat.le_refl _, List.Perm.refl _, A2.out, IOwn.nil _ _, L2.out, B2.out, Nat.le_refl _⟩
  case round =>
    obtain ⟨j, ls, Bs, rfl, hjg, hlj, hpm, ha, hol, hl, hb, hwz⟩ := hrel
    obtain ⟨la, lc, rfl⟩ := own_form hol
    have PK := Lib.hid hpm
    have AK := Lib.hid ha
    have OL := Lib.hid hol
    have LK := Lib.hid hl
    have BK := Lib.hid hb
    clear hpm ha hol hl hb A2 L2 B2
    generalize hnl0 : ls.length = nl at *
    have HNL := Lib.hid hnl0
    clear hnl0
    by_cases hj : j < m5 ∧ j < 100
    · obtain ⟨hj1, hj2⟩ := hj
      have hj1i : (j : Int) < (m5 : Int) := by omega
      have hj2i : (j : Int) < 100 := by omega
      have hgg : gk - 1 < gk := by omega
      obtain ⟨y, hy⟩ : ∃ y, sizes[j]? = some y := ⟨_, List.getElem?_eq_getElem (by rw [HMM5.out]; exact hj1)⟩
      obtain ⟨bz, oz, rfl, hbz, cz⟩ := IRow.at_ (IRow.below HSZ.out.1 BK.out (Nat.le_refl _)) hy
      have hyi := HSZ.out.2 y (List.mem_of_getElem? hy)
      have HYI := Lib.hid hyi
      have hbzw : bz < wr.heap.size := Nat.lt_of_lt_of_le hbz BK.out.size
      clear hy hyi
      go_wp2_with fail
      refine (pick_any y 30 _ HYI.out (by decide) (by decide)).mono ?_
      rintro e w' ⟨rfl, rfl⟩
      have hp30 := pickN_lt y (n := 30) (by decide)
      have hw30 : IntKind.i64.wrap (1 + (pickN y 30 : Int)) = ((1 + pickN y 30 : Nat) : Int) := by rw [IntWalk.i64_in _ (by omega)]; omega
      generalize pickN y 30 = z at *
      go_wp2_with fail
      refine (alloc_perm PK.out AK.out (1 + z) (by omega) (by omega)).mono ?_
      rintro e w7 ⟨x7, f7, rfl, hcase, hu⟩
      have B7 := Lib.hid (step_below BK.out hu QQ.out (Nat.le_refl _))
      have OL7 := Lib.hid (own_arena OL.out hu HS.out)
      have hz7 := hu.size
      clear hu cz OL BK hbzw AK
      rcases hcase with ⟨rfl, ha⟩ | ⟨rfl, Bn, hln, hs, ha⟩
      · have A7 := Lib.hid ha
        clear ha
        go_wp2
        go_roundg (gk - 1)
        case measure => exact hgg
        case rel => exact ⟨j + 1, ls, Bs, by go_num, by omega, by rw [HNL.out]; omega, PK.out, A7.out, by have := OL7.out; rwa [← HNL.out] at this ⊢, LK.out, B7.out, by omega⟩
      · have A7 := Lib.hid ha
        have S7 := Lib.hid hs
        have L7 := Lib.hid (hln.trans (show len Bs = N - 1 by have := LK.out; omega))
        clear ha hs PK LK hln
        have OL7' := Lib.hid (show w7.ownsRow w2.heap.size 3 1 (.slice la nl lc) nl (icells ls) by have := OL7.out; unfold IOwn at this; rwa [HNL.out] at this)
        go_wp2_with (at_builtin; refine wpList_append_own2 rfl (.tmp 67) (.tmp 69) 32 rfl w2.heap.size 3 i0 (.int .i64 0) 1 8 Try.underlying32 hi0 hz0 hz1 hz2 rfl (by decide) _ _ _ rfl (OL7'.out.alloc _) ⟨_, 0, none⟩ 1 1 [.int .i64 x7] rfl rfl ?ua ?ub ?uc ?ud ?ue ?_)
        case ua => exact new_at _ [.int .i64 x7] 3 _ (by simp)
        case ub => exact int_cells .i64 [x7]
        case uc => unfold maxLen; omega
        case ud => omega
        case ue => simp; omega
        intro v8 w8 own8 hg8 hm8
        have O8 := Lib.hid (IOwn.more own8 HNL.out.symm rfl)
        have BG := Lib.hid (((Below.refl w2.heap.size w7).alloc (by omega) (.cells #[.int .i64 x7] 3)).grown hg8 (by simp; omega) (fun k hk => own_block_ge OL7.out k hk))
        have A8 := Lib.hid (A7.out.belowB BG.out HS.out)
        have B8 := Lib.hid (B7.out.trans (BG.out.mono HWS.out))
        have hz8 := BG.out.size
        clear own8 hg8 hm8
        go_wp2
        go_roundg (gk - 1)
        case measure => exact hgg
        case rel => exact ⟨j + 1, ls ++ [x7], Bn, by go_num, by omega, by rw [List.length_append, HNL.out, List.length_singleton]; omega, S7.out, A8.out, O8.out, by rw [L7.out]; omega, B8.out, by omega⟩
    · by_cases hj1 : j < m5
      · have hj1i : (j : Int) < (m5 : Int) := by omega
        have hj2i : ¬ (j : Int) < 100 := by omega
        have hj30 : j ≤ 100 := by omega
        have hnl : nl ≤ 100 := by omega
        have hnlI := Lib.hid (show 0 + ls.length ≤ 100 by rw [HNL.out]; omega)
        go_wp2
        go_loopg [10, 14] nl (fun g v iv wx => ∃ (i : Nat) (ls2 : List Int) (Bs2 : List Blk), iv = .int .i64 (i : Int) ∧ i + ls2.length ≤ 100 ∧ ls2.length = g ∧ (usedL 1 Bs2).Perm ls2 ∧ Arena q p b Bs2 wx ∧ IOwn wx w2.heap.size v ls2 ∧ 1 + len Bs2 = N ∧ Below W.heap.size W wx ∧ w2.heap.size ≤ wx.heap.size)
        case atStart => exact ⟨0, ls, Bs, rfl, hnlI.out, HNL.out, PK.out, AK.out, OL.out, LK.out, BK.out, hwz⟩
        case round =>
          obtain ⟨i, ls2, Bs2, rfl, hil, hng, hpm, ha, hol, hl, hb, hwz2⟩ := hrel
          obtain ⟨la2, lc2, hv⟩ := own_form hol
          rw [hng] at hv hil
          subst hv
          have P2 := Lib.hid hpm
          have A2 := Lib.hid ha
          have O2 := Lib.hid hol
          have L2 := Lib.hid hl
          have C2 := Lib.hid hb
          have HN2 := Lib.hid hng
          clear hpm ha hol hl hb hng PK AK OL LK BK HNL hnlI
          cases gk with
          | zero =>
            obtain rfl : ls2 = [] := List.eq_nil_of_length_eq_zero (by rw [HN2.out])
            have hun := P2.out.eq_nil
            have hone := one_free A2.out.1 hun
            have hlen : len Bs2 = N - 1 := by have := L2.out; omega
            rw [hlen] at hone
            subst hone
            clear hun hlen
            have HWD := Lib.hid (words_any q p b _ wr A2.out)
            rw [show sumOf true [freeBk (N - 1)] = 0 from rfl, show sumOf false [freeBk (N - 1)] = N - 1 by rw [show sumOf false [freeBk (N - 1)] = (freeBk (N - 1)).sz + 0 from rfl, freeBk_sz (by omega)]; rfl] at HWD
            go_wp2_with fail
            refine HWD.out.mono ?_
            rintro e w3 ⟨rfl, hb3⟩
            have A3 := Lib.hid (A2.out.below hb3)
            have B3 := Lib.hid (C2.out.trans (hb3.mono C2.out.size))
            clear hb3 A2 C2 HWD O2
            go_wp2_with fail
            refine (arena_raw_nat A3.out 1 _ (words_one1 hN1)).mono ?_
            rintro e w' ⟨rfl, rfl⟩
            go_wp2
            obtain ⟨w4, hw4⟩ : ∃ x, x = w' := ⟨_, rfl⟩
            go_loopg [20] N (fun g iv wx => ∃ i : Nat, iv = .int .i64 (i : Int) ∧ 2 ≤ i ∧ i + g = N + 2 ∧ i ≤ N ∧ wx = w')
            case atStart => exact ⟨2, rfl, by omega, by omega, by omega, rfl⟩
            case round =>
              obtain ⟨i, rfl, hi2, hig, hiN, rfl⟩ := hrel
              by_cases hi : i < N
              · have hii : (i : Int) < (N : Int) := by omega
                have hgg : gk - 1 < gk := by omega
                have HRAW := Lib.hid (arena_raw_nat A3.out i _ (words_one hi2 hi hN1))
                unfold PZ at HRAW
                go_wp2_with fail
                refine HRAW.out.mono ?_
                rintro e w' ⟨rfl, rfl⟩
                go_wp2
                go_roundg (gk - 1)
                case measure => exact hgg
                case rel => exact ⟨i + 1, by go_num, by omega, by omega, by omega, rfl⟩
              · obtain rfl : N = i := by omega
                have hii : ¬ (N : Int) < (N : Int) := by omega
                have hm1 : IntKind.i64.wrap ((N : Int) - 1) = ((N - 1 : Nat) : Int) := by rw [IntWalk.i64_in _ (by omega)]; omega
                have hm2 : IntKind.i64.wrap (2 * ((N - 1 : Nat) : Int)) = 2 * ((N - 1 : Nat) : Int) := IntWalk.i64_in _ (by omega)
                have hq1 : (((N - 1 : Nat) : Int) == ((N - 1 : Nat) : Int)) = true := by simp
                have hq2 : ((2 * ((N - 1 : Nat) : Int)) == (2 * ((N - 1 : Nat) : Int))) = true := by simp
                go_wp2_with fail
                refine (used_any q p b _ _ A3.out).mono ?_
                rintro e w5 ⟨v5, rfl, ho5, hb5⟩
                rw [show usedL 1 [freeBk (N - 1)] = [] from rfl] at ho5
                obtain ⟨a5, c5, rfl⟩ := ho5.form
                have B5 := Lib.hid (B3.out.trans (hb5.mono B3.out.size))
                clear hb5 ho5
                go_wp2
                go_ret
                exact ⟨rfl, B5.out⟩
          | succ g =>
            have hpos : (0 : Int) < ((g + 1 : Nat) : Int) := by omega
            have hg100 : g + 1 ≤ 100 := by omega
            by_cases hi6 : i < m6
            · have hi6i : (i : Int) < (m6 : Int) := by omega
              obtain ⟨y6, hy6⟩ : ∃ y, order[i]? = some y := ⟨_, List.getElem?_eq_getElem (by rw [HMM6.out]; exact hi6)⟩
              obtain ⟨bz, oz, rfl, hbz, cz⟩ := IRow.at_ (IRow.below HOR.out.1 C2.out (Nat.le_refl _)) hy6
              have hyi := HOR.out.2 y6 (List.mem_of_getElem? hy6)
              have HYI := Lib.hid hyi
              have hbzw : bz < wr.heap.size := Nat.lt_of_lt_of_le hbz C2.out.size
              clear hy6 hyi
              go_wp2_with fail
              refine (pick_any y6 (g + 1) _ HYI.out (by omega) (by omega)).mono ?_
              rintro e w' ⟨rfl, rfl⟩
              obtain ⟨kk, hkk0⟩ : ∃ kk, pickN y6 (g + 1) = kk := ⟨_, rfl⟩
              have hkk : kk < g + 1 := by rw [← hkk0]; exact pickN_lt _ (by omega)
              rw [hkk0]
              clear hkk0 cz
              have hkki : (kk : Int) < ((g + 1 : Nat) : Int) := by omega
              obtain ⟨y, hy⟩ : ∃ y, ls2[kk]? = some y := ⟨_, List.getElem?_eq_getElem (by rw [HN2.out]; exact hkk)⟩
              have hsp : ls2 = ls2.take kk ++ y :: ls2.drop (kk + 1) := by
                have h1 := (List.getElem?_eq_some_iff.1 hy)
                rw [← h1.2, List.getElem_cons_drop, List.take_append_drop]
              obtain ⟨bl, rfl, hcap, hblt, hcel⟩ := own_row O2.out HN2.out (by omega)
              have cl := hcel kk y hy
              have HF := Lib.hid (free_perm (la := ls2.take kk) (lb := ls2.drop (kk + 1)) (x := y) (by have := P2.out; rw [hsp] at this; exact this) A2.out)
              have HLL := Lib.hid (show (ls2.take kk ++ ls2.drop (kk + 1)).length = g by rw [List.length_append, List.length_take, List.length_drop, HN2.out]; omega)
              clear hy hsp hcel
              go_wp2_with fail
              refine HF.out.mono ?_
              rintro e w9 ⟨rfl, ⟨Bn, hln, hpn, han⟩, hu⟩
              have A9 := Lib.hid han
              have P9 := Lib.hid hpn
              have L9 := Lib.hid (hln.trans (show len Bs2 = N - 1 by have := L2.out; omega))
              have B9 := Lib.hid (step_below C2.out hu QQ.out (Nat.le_refl _))
              have O9 := Lib.hid (own_arena O2.out hu HS.out)
              have hz9 := hu.size
              clear han hpn hln hu cl HF A2 P2 L2 C2 O2 hblt
              have HCC := Lib.hid (own_cells O9.out)
              have hk1 : kk ≤ lc2 := by omega
              have hk2 : kk + 1 ≤ lc2 := by omega
              have hk3 : ((kk : Int) + 1).toNat = kk + 1 := by omega
              have hk4 : IntKind.i64.wrap ((kk : Int) + 1) = (kk : Int) + 1 := IntWalk.i64_in _ (by omega)
              have hk5 : kk + 1 ≤ g + 1 := by omega
              have hk6 : IntKind.i64.wrap 1 = 1 := by decide
              have hk7 : (1 : Int) ≤ (g : Int) + 1 := by omega
              have hk8 : (0 : Int) ≤ (kk : Int) + 1 := by omega
              have hk9 : (kk : Int) + 1 ≤ (g : Int) + 1 := by omega
              have hw29 := O9.out
              have HO1 := Lib.hid (own_new (e := 3) (size := 1) (n := 0) (base := w9.heap.size) (cs := []) (heap_new w9 (.cells #[] 3)) (Nat.le_refl _) rfl (by decide))
              have HTK := Lib.hid (show (icells (ls2.take kk)).length = kk * 1 by rw [icells_length, List.length_take, HN2.out]; omega)
              have HDR := Lib.hid (show (icells (ls2.drop (kk + 1))).length = (g - kk) * 1 by rw [icells_length, List.length_drop, HN2.out]; omega)
              obtain ⟨AD, hif, had⟩ := pick_addr bl lc2 kk g hcap
              have HAD := Lib.hid had
              clear had
              go_wp2_with fail
              go_region_law (first | (refine step_append_own2 rfl (.tmp 94) (.tmp 97) 32 rfl w9.heap.size 3 i0 (.int .i64 0) 1 8 Try.underlying32 hi0 hz0 hz1 hz2 rfl (by decide) (.slice (some ⟨w9.heap.size, 0, none⟩) 0 0) 0 [] rfl HO1.out ⟨bl, 0, none⟩ kk lc2 (icells (ls2.take kk)) rfl HTK.out (news_take (o := .cells #[] 3) HCC.out) (int_cells .i64 _) (by unfold maxLen; omega) (by omega) (by simp) ?_; intro v3 w3 own3 hg3 hm3) | (refine step_append_own2 rfl (.tmp 98) (.tmp 102) 32 rfl w9.heap.size 3 i0 (.int .i64 0) 1 8 Try.underlying32 hi0 hz0 hz1 hz2 rfl (by decide) v3 (0 + kk) _ rfl own3 AD (g - kk) (lc2 - (kk + 1)) (icells (ls2.drop (kk + 1))) (by simp [Act.eval, Act.put]) HDR.out (news_any (o := .cells #[] 3) HAD.out HCC.out hg3 HDR.out) (int_cells .i64 _) (by unfold maxLen; omega) (by omega) (by have := hg3.size; simp at this; omega) ?_; intro v4 w4 own4 hg4 hm4))
              all_goals
                have OX := Lib.hid (show IOwn w4 w2.heap.size v4 (ls2.take kk ++ ls2.drop (kk + 1)) by
                  have h1 := own_mono own4 (show w2.heap.size ≤ w9.heap.size by omega)
                  rw [List.nil_append, ← icells_append] at h1
                  unfold IOwn
                  rw [HLL.out]
                  rw [show 0 + kk + (g - kk) = g by omega] at h1
                  exact h1)
                have BG := Lib.hid (two_grown hg3 hg4 (own_block_ge own3))
                have AX := Lib.hid (A9.out.below BG.out)
                have BX := Lib.hid (B9.out.trans (BG.out.mono B9.out.size))
                have hz := BG.out.size
                clear own3 own4 hg3 hg4 hm3 hm4
                go_wp2
                go_roundg g
                case measure => exact Nat.lt_succ_self g
                case rel => exact ⟨i + 1, _, Bn, by go_num, by rw [HLL.out]; omega, HLL.out, P9.out, AX.out, OX.out, by rw [L9.out]; omega, BX.out, by omega⟩
            · have hi6i : ¬ (i : Int) < (m6 : Int) := by omega
              have hkk : 0 < g + 1 := by omega
              have hkki : (0 : Int) < ((g + 1 : Nat) : Int) := by omega
              obtain ⟨y, hy⟩ : ∃ y, ls2[0]? = some y := ⟨_, List.getElem?_eq_getElem (by rw [HN2.out]; exact hkk)⟩
              have hsp : ls2 = ls2.take 0 ++ y :: ls2.drop 1 := by
                have h1 := (List.getElem?_eq_some_iff.1 hy)
                rw [← h1.2, List.getElem_cons_drop, List.take_append_drop]
              obtain ⟨bl, rfl, hcap, hblt, hcel⟩ := own_row O2.out HN2.out (by omega)
              have cl := hcel 0 y hy
              have HF := Lib.hid (free_perm (la := ls2.take 0) (lb := ls2.drop 1) (x := y) (by have := P2.out; rw [hsp] at this; exact this) A2.out)
              have HLL := Lib.hid (show (ls2.take 0 ++ ls2.drop 1).length = g by rw [List.length_append, List.length_take, List.length_drop, HN2.out]; omega)
              clear hy hsp hcel
              go_wp2_with fail
              refine HF.out.mono ?_
              rintro e w9 ⟨rfl, ⟨Bn, hln, hpn, han⟩, hu⟩
              have A9 := Lib.hid han
              have P9 := Lib.hid hpn
              have L9 := Lib.hid (hln.trans (show len Bs2 = N - 1 by have := L2.out; omega))
              have B9 := Lib.hid (step_below C2.out hu QQ.out (Nat.le_refl _))
              have O9 := Lib.hid (own_arena O2.out hu HS.out)
              have hz9 := hu.size
              clear han hpn hln hu cl HF A2 P2 L2 C2 O2 hblt
              have HCC := Lib.hid (own_cells O9.out)
              have hk1 : 0 ≤ lc2 := by omega
              have hk2 : 1 ≤ lc2 := by omega
              have hk6 : IntKind.i64.wrap 1 = 1 := by decide
              have hk7 : (1 : Int) ≤ (g : Int) + 1 := by omega
              have hw29 := O9.out
              have HO1 := Lib.hid (own_new (e := 3) (size := 1) (n := 0) (base := w9.heap.size) (cs := []) (heap_new w9 (.cells #[] 3)) (Nat.le_refl _) rfl (by decide))
              have HTK := Lib.hid (show (icells (ls2.take 0)).length = 0 * 1 by rw [icells_length, List.length_take, HN2.out]; omega)
              have HDR := Lib.hid (show (icells (ls2.drop 1)).length = (g - 0) * 1 by rw [icells_length, List.length_drop, HN2.out]; omega)
              obtain ⟨AD, hif, had⟩ := pick_addr bl lc2 0 g hcap
              have HAD := Lib.hid had
              clear had
              go_wp2_with fail
              go_region_law (first | (refine step_append_own2 rfl (.tmp 94) (.tmp 97) 32 rfl w9.heap.size 3 i0 (.int .i64 0) 1 8 Try.underlying32 hi0 hz0 hz1 hz2 rfl (by decide) (.slice (some ⟨w9.heap.size, 0, none⟩) 0 0) 0 [] rfl HO1.out ⟨bl, 0, none⟩ 0 lc2 (icells (ls2.take 0)) rfl HTK.out (news_take (o := .cells #[] 3) HCC.out) (int_cells .i64 _) (by unfold maxLen; omega) (by omega) (by simp) ?_; intro v3 w3 own3 hg3 hm3) | (refine step_append_own2 rfl (.tmp 98) (.tmp 102) 32 rfl w9.heap.size 3 i0 (.int .i64 0) 1 8 Try.underlying32 hi0 hz0 hz1 hz2 rfl (by decide) v3 (0 + 0) _ rfl own3 AD (g - 0) (lc2 - 1) (icells (ls2.drop 1)) (by simp [Act.eval, Act.put]) HDR.out (news_any (o := .cells #[] 3) HAD.out HCC.out hg3 HDR.out) (int_cells .i64 _) (by unfold maxLen; omega) (by omega) (by have := hg3.size; simp at this; omega) ?_; intro v4 w4 own4 hg4 hm4))
              all_goals
                have OX := Lib.hid (show IOwn w4 w2.heap.size v4 (ls2.take 0 ++ ls2.drop 1) by
                  have h1 := own_mono own4 (show w2.heap.size ≤ w9.heap.size by omega)
                  rw [List.nil_append, ← icells_append] at h1
                  unfold IOwn
                  rw [HLL.out]
                  rw [show 0 + 0 + (g - 0) = g by omega] at h1
                  exact h1)
                have BG := Lib.hid (two_grown hg3 hg4 (own_block_ge own3))
                have AX := Lib.hid (A9.out.below BG.out)
                have BX := Lib.hid (B9.out.trans (BG.out.mono B9.out.size))
                have hz := BG.out.size
                clear own3 own4 hg3 hg4 hm3 hm4
                go_wp2
                go_roundg g
                case measure => exact Nat.lt_succ_self g
                case rel => exact ⟨i + 1, _, Bn, by go_num, by rw [HLL.out]; omega, HLL.out, P9.out, AX.out, OX.out, by rw [L9.out]; omega, BX.out, by omega⟩
      · have hj1i : ¬ (j : Int) < (m5 : Int) := by omega
        have hj30 : j ≤ 100 := by omega
        have hnl : nl ≤ 100 := by omega
        have hnlI := Lib.hid (show 0 + ls.length ≤ 100 by rw [HNL.out]; omega)
        go_wp2
        go_loopg [10, 14] nl (fun g v iv wx => ∃ (i : Nat) (ls2 : List Int) (Bs2 : List Blk), iv = .int .i64 (i : Int) ∧ i + ls2.length ≤ 100 ∧ ls2.length = g ∧ (usedL 1 Bs2).Perm ls2 ∧ Arena q p b Bs2 wx ∧ IOwn wx w2.heap.size v ls2 ∧ 1 + len Bs2 = N ∧ Below W.heap.size W wx ∧ w2.heap.size ≤ wx.heap.size)
        case atStart => exact ⟨0, ls, Bs, rfl, hnlI.out, HNL.out, PK.out, AK.out, OL.out, LK.out, BK.out, hwz⟩
        case round =>
          obtain ⟨i, ls2, Bs2, rfl, hil, hng, hpm, ha, hol, hl, hb, hwz2⟩ := hrel
          obtain ⟨la2, lc2, hv⟩ := own_form hol
          rw [hng] at hv hil
          subst hv
          have P2 := Lib.hid hpm
          have A2 := Lib.hid ha
          have O2 := Lib.hid hol
          have L2 := Lib.hid hl
          have C2 := Lib.hid hb
          have HN2 := Lib.hid hng
          clear hpm ha hol hl hb hng PK AK OL LK BK HNL hnlI
          cases gk with
          | zero =>
            obtain rfl : ls2 = [] := List.eq_nil_of_length_eq_zero (by rw [HN2.out])
            have hun := P2.out.eq_nil
            have hone := one_free A2.out.1 hun
            have hlen : len Bs2 = N - 1 := by have := L2.out; omega
            rw [hlen] at hone
            subst hone
            clear hun hlen
            have HWD := Lib.hid (words_any q p b _ wr A2.out)
            rw [show sumOf true [freeBk (N - 1)] = 0 from rfl, show sumOf false [freeBk (N - 1)] = N - 1 by rw [show sumOf false [freeBk (N - 1)] = (freeBk (N - 1)).sz + 0 from rfl, freeBk_sz (by omega)]; rfl] at HWD
            go_wp2_with fail
            refine HWD.out.mono ?_
            rintro e w3 ⟨rfl, hb3⟩
            have A3 := Lib.hid (A2.out.below hb3)
            have B3 := Lib.hid (C2.out.trans (hb3.mono C2.out.size))
            clear hb3 A2 C2 HWD O2
            go_wp2_with fail
            refine (arena_raw_nat A3.out 1 _ (words_one1 hN1)).mono ?_
            rintro e w' ⟨rfl, rfl⟩
            go_wp2
            obtain ⟨w4, hw4⟩ : ∃ x, x = w' := ⟨_, rfl⟩
            go_loopg [20] N (fun g iv wx => ∃ i : Nat, iv = .int .i64 (i : Int) ∧ 2 ≤ i ∧ i + g = N + 2 ∧ i ≤ N ∧ wx = w')
            case atStart => exact ⟨2, rfl, by omega, by omega, by omega, rfl⟩
            case round =>
              obtain ⟨i, rfl, hi2, hig, hiN, rfl⟩ := hrel
              by_cases hi : i < N
              · have hii : (i : Int) < (N : Int) := by omega
                have hgg : gk - 1 < gk := by omega
                have HRAW := Lib.hid (arena_raw_nat A3.out i _ (words_one hi2 hi hN1))
                unfold PZ at HRAW
                go_wp2_with fail
                refine HRAW.out.mono ?_
                rintro e w' ⟨rfl, rfl⟩
                go_wp2
                go_roundg (gk - 1)
                case measure => exact hgg
                case rel => exact ⟨i + 1, by go_num, by omega, by omega, by omega, rfl⟩
              · obtain rfl : N = i := by omega
                have hii : ¬ (N : Int) < (N : Int) := by omega
                have hm1 : IntKind.i64.wrap ((N : Int) - 1) = ((N - 1 : Nat) : Int) := by rw [IntWalk.i64_in _ (by omega)]; omega
                have hm2 : IntKind.i64.wrap (2 * ((N - 1 : Nat) : Int)) = 2 * ((N - 1 : Nat) : Int) := IntWalk.i64_in _ (by omega)
                have hq1 : (((N - 1 : Nat) : Int) == ((N - 1 : Nat) : Int)) = true := by simp
                have hq2 : ((2 * ((N - 1 : Nat) : Int)) == (2 * ((N - 1 : Nat) : Int))) = true := by simp
                go_wp2_with fail
                refine (used_any q p b _ _ A3.out).mono ?_
                rintro e w5 ⟨v5, rfl, ho5, hb5⟩
                rw [show usedL 1 [freeBk (N - 1)] = [] from rfl] at ho5
                obtain ⟨a5, c5, rfl⟩ := ho5.form
                have B5 := Lib.hid (B3.out.trans (hb5.mono B3.out.size))
                clear hb5 ho5
                go_wp2
                go_ret
                exact ⟨rfl, B5.out⟩
          | succ g =>
            have hpos : (0 : Int) < ((g + 1 : Nat) : Int) := by omega
            have hg100 : g + 1 ≤ 100 := by omega
            by_cases hi6 : i < m6
            · have hi6i : (i : Int) < (m6 : Int) := by omega
              obtain ⟨y6, hy6⟩ : ∃ y, order[i]? = some y := ⟨_, List.getElem?_eq_getElem (by rw [HMM6.out]; exact hi6)⟩
              obtain ⟨bz, oz, rfl, hbz, cz⟩ := IRow.at_ (IRow.below HOR.out.1 C2.out (Nat.le_refl _)) hy6
              have hyi := HOR.out.2 y6 (List.mem_of_getElem? hy6)
              have HYI := Lib.hid hyi
              have hbzw : bz < wr.heap.size := Nat.lt_of_lt_of_le hbz C2.out.size
              clear hy6 hyi
              go_wp2_with fail
              refine (pick_any y6 (g + 1) _ HYI.out (by omega) (by omega)).mono ?_
              rintro e w' ⟨rfl, rfl⟩
              obtain ⟨kk, hkk0⟩ : ∃ kk, pickN y6 (g + 1) = kk := ⟨_, rfl⟩
              have hkk : kk < g + 1 := by rw [← hkk0]; exact pickN_lt _ (by omega)
              rw [hkk0]
              clear hkk0 cz
              have hkki : (kk : Int) < ((g + 1 : Nat) : Int) := by omega
              obtain ⟨y, hy⟩ : ∃ y, ls2[kk]? = some y := ⟨_, List.getElem?_eq_getElem (by rw [HN2.out]; exact hkk)⟩
              have hsp : ls2 = ls2.take kk ++ y :: ls2.drop (kk + 1) := by
                have h1 := (List.getElem?_eq_some_iff.1 hy)
                rw [← h1.2, List.getElem_cons_drop, List.take_append_drop]
              obtain ⟨bl, rfl, hcap, hblt, hcel⟩ := own_row O2.out HN2.out (by omega)
              have cl := hcel kk y hy
              have HF := Lib.hid (free_perm (la := ls2.take kk) (lb := ls2.drop (kk + 1)) (x := y) (by have := P2.out; rw [hsp] at this; exact this) A2.out)
              have HLL := Lib.hid (show (ls2.take kk ++ ls2.drop (kk + 1)).length = g by rw [List.length_append, List.length_take, List.length_drop, HN2.out]; omega)
              clear hy hsp hcel
              go_wp2_with fail
              refine HF.out.mono ?_
              rintro e w9 ⟨rfl, ⟨Bn, hln, hpn, han⟩, hu⟩
              have A9 := Lib.hid han
              have P9 := Lib.hid hpn
              have L9 := Lib.hid (hln.trans (show len Bs2 = N - 1 by have := L2.out; omega))
              have B9 := Lib.hid (step_below C2.out hu QQ.out (Nat.le_refl _))
              have O9 := Lib.hid (own_arena O2.out hu HS.out)
              have hz9 := hu.size
              clear han hpn hln hu cl HF A2 P2 L2 C2 O2 hblt
              have HCC := Lib.hid (own_cells O9.out)
              have hk1 : kk ≤ lc2 := by omega
              have hk2 : kk + 1 ≤ lc2 := by omega
              have hk3 : ((kk : Int) + 1).toNat = kk + 1 := by omega
              have hk4 : IntKind.i64.wrap ((kk : Int) + 1) = (kk : Int) + 1 := IntWalk.i64_in _ (by omega)
              have hk5 : kk + 1 ≤ g + 1 := by omega
              have hk6 : IntKind.i64.wrap 1 = 1 := by decide
              have hk7 : (1 : Int) ≤ (g : Int) + 1 := by omega
              have hk8 : (0 : Int) ≤ (kk : Int) + 1 := by omega
              have hk9 : (kk : Int) + 1 ≤ (g : Int) + 1 := by omega
              have hw29 := O9.out
              have HO1 := Lib.hid (own_new (e := 3) (size := 1) (n := 0) (base := w9.heap.size) (cs := []) (heap_new w9 (.cells #[] 3)) (Nat.le_refl _) rfl (by decide))
              have HTK := Lib.hid (show (icells (ls2.take kk)).length = kk * 1 by rw [icells_length, List.length_take, HN2.out]; omega)
              have HDR := Lib.hid (show (icells (ls2.drop (kk + 1))).length = (g - kk) * 1 by rw [icells_length, List.length_drop, HN2.out]; omega)
              obtain ⟨AD, hif, had⟩ := pick_addr bl lc2 kk g hcap
              have HAD := Lib.hid had
              clear had
              go_wp2_with fail
              go_region_law (first | (refine step_append_own2 rfl (.tmp 94) (.tmp 97) 32 rfl w9.heap.size 3 i0 (.int .i64 0) 1 8 Try.underlying32 hi0 hz0 hz1 hz2 rfl (by decide) (.slice (some ⟨w9.heap.size, 0, none⟩) 0 0) 0 [] rfl HO1.out ⟨bl, 0, none⟩ kk lc2 (icells (ls2.take kk)) rfl HTK.out (news_take (o := .cells #[] 3) HCC.out) (int_cells .i64 _) (by unfold maxLen; omega) (by omega) (by simp) ?_; intro v3 w3 own3 hg3 hm3) | (refine step_append_own2 rfl (.tmp 98) (.tmp 102) 32 rfl w9.heap.size 3 i0 (.int .i64 0) 1 8 Try.underlying32 hi0 hz0 hz1 hz2 rfl (by decide) v3 (0 + kk) _ rfl own3 AD (g - kk) (lc2 - (kk + 1)) (icells (ls2.drop (kk + 1))) (by simp [Act.eval, Act.put]) HDR.out (news_any (o := .cells #[] 3) HAD.out HCC.out hg3 HDR.out) (int_cells .i64 _) (by unfold maxLen; omega) (by omega) (by have := hg3.size; simp at this; omega) ?_; intro v4 w4 own4 hg4 hm4))
              all_goals
                have OX := Lib.hid (show IOwn w4 w2.heap.size v4 (ls2.take kk ++ ls2.drop (kk + 1)) by
                  have h1 := own_mono own4 (show w2.heap.size ≤ w9.heap.size by omega)
                  rw [List.nil_append, ← icells_append] at h1
                  unfold IOwn
                  rw [HLL.out]
                  rw [show 0 + kk + (g - kk) = g by omega] at h1
                  exact h1)
                have BG := Lib.hid (two_grown hg3 hg4 (own_block_ge own3))
                have AX := Lib.hid (A9.out.below BG.out)
                have BX := Lib.hid (B9.out.trans (BG.out.mono B9.out.size))
                have hz := BG.out.size
                clear own3 own4 hg3 hg4 hm3 hm4
                go_wp2
                go_roundg g
                case measure => exact Nat.lt_succ_self g
                case rel => exact ⟨i + 1, _, Bn, by go_num, by rw [HLL.out]; omega, HLL.out, P9.out, AX.out, OX.out, by rw [L9.out]; omega, BX.out, by omega⟩
            · have hi6i : ¬ (i : Int) < (m6 : Int) := by omega
              have hkk : 0 < g + 1 := by omega
              have hkki : (0 : Int) < ((g + 1 : Nat) : Int) := by omega
              obtain ⟨y, hy⟩ : ∃ y, ls2[0]? = some y := ⟨_, List.getElem?_eq_getElem (by rw [HN2.out]; exact hkk)⟩
              have hsp : ls2 = ls2.take 0 ++ y :: ls2.drop 1 := by
                have h1 := (List.getElem?_eq_some_iff.1 hy)
                rw [← h1.2, List.getElem_cons_drop, List.take_append_drop]
              obtain ⟨bl, rfl, hcap, hblt, hcel⟩ := own_row O2.out HN2.out (by omega)
              have cl := hcel 0 y hy
              have HF := Lib.hid (free_perm (la := ls2.take 0) (lb := ls2.drop 1) (x := y) (by have := P2.out; rw [hsp] at this; exact this) A2.out)
              have HLL := Lib.hid (show (ls2.take 0 ++ ls2.drop 1).length = g by rw [List.length_append, List.length_take, List.length_drop, HN2.out]; omega)
              clear hy hsp hcel
              go_wp2_with fail
              refine HF.out.mono ?_
              rintro e w9 ⟨rfl, ⟨Bn, hln, hpn, han⟩, hu⟩
              have A9 := Lib.hid han
              have P9 := Lib.hid hpn
              have L9 := Lib.hid (hln.trans (show len Bs2 = N - 1 by have := L2.out; omega))
              have B9 := Lib.hid (step_below C2.out hu QQ.out (Nat.le_refl _))
              have O9 := Lib.hid (own_arena O2.out hu HS.out)
              have hz9 := hu.size
              clear han hpn hln hu cl HF A2 P2 L2 C2 O2 hblt
              have HCC := Lib.hid (own_cells O9.out)
              have hk1 : 0 ≤ lc2 := by omega
              have hk2 : 1 ≤ lc2 := by omega
              have hk6 : IntKind.i64.wrap 1 = 1 := by decide
              have hk7 : (1 : Int) ≤ (g : Int) + 1 := by omega
              have hw29 := O9.out
              have HO1 := Lib.hid (own_new (e := 3) (size := 1) (n := 0) (base := w9.heap.size) (cs := []) (heap_new w9 (.cells #[] 3)) (Nat.le_refl _) rfl (by decide))
              have HTK := Lib.hid (show (icells (ls2.take 0)).length = 0 * 1 by rw [icells_length, List.length_take, HN2.out]; omega)
              have HDR := Lib.hid (show (icells (ls2.drop 1)).length = (g - 0) * 1 by rw [icells_length, List.length_drop, HN2.out]; omega)
              obtain ⟨AD, hif, had⟩ := pick_addr bl lc2 0 g hcap
              have HAD := Lib.hid had
              clear had
              go_wp2_with fail
              go_region_law (first | (refine step_append_own2 rfl (.tmp 94) (.tmp 97) 32 rfl w9.heap.size 3 i0 (.int .i64 0) 1 8 Try.underlying32 hi0 hz0 hz1 hz2 rfl (by decide) (.slice (some ⟨w9.heap.size, 0, none⟩) 0 0) 0 [] rfl HO1.out ⟨bl, 0, none⟩ 0 lc2 (icells (ls2.take 0)) rfl HTK.out (news_take (o := .cells #[] 3) HCC.out) (int_cells .i64 _) (by unfold maxLen; omega) (by omega) (by simp) ?_; intro v3 w3 own3 hg3 hm3) | (refine step_append_own2 rfl (.tmp 98) (.tmp 102) 32 rfl w9.heap.size 3 i0 (.int .i64 0) 1 8 Try.underlying32 hi0 hz0 hz1 hz2 rfl (by decide) v3 (0 + 0) _ rfl own3 AD (g - 0) (lc2 - 1) (icells (ls2.drop 1)) (by simp [Act.eval, Act.put]) HDR.out (news_any (o := .cells #[] 3) HAD.out HCC.out hg3 HDR.out) (int_cells .i64 _) (by unfold maxLen; omega) (by omega) (by have := hg3.size; simp at this; omega) ?_; intro v4 w4 own4 hg4 hm4))
              all_goals
                have OX := Lib.hid (show IOwn w4 w2.heap.size v4 (ls2.take 0 ++ ls2.drop 1) by
                  have h1 := own_mono own4 (show w2.heap.size ≤ w9.heap.size by omega)
                  rw [List.nil_append, ← icells_append] at h1
                  unfold IOwn
                  rw [HLL.out]
                  rw [show 0 + 0 + (g - 0) = g by omega] at h1
                  exact h1)
                have BG := Lib.hid (two_grown hg3 hg4 (own_block_ge own3))
                have AX := Lib.hid (A9.out.below BG.out)
                have BX := Lib.hid (B9.out.trans (BG.out.mono B9.out.size))
                have hz := BG.out.size
                clear own3 own4 hg3 hg4 hm3 hm4
                go_wp2
                go_roundg g
                case measure => exact Nat.lt_succ_self g
                case rel => exact ⟨i + 1, _, Bn, by go_num, by rw [HLL.out]; omega, HLL.out, P9.out, AX.out, OX.out, by rw [L9.out]; omega, BX.out, by omega⟩
end Go.Proofs.Ytmgpimibnogcaaa
