/-
  WALK of ArenaAgain.
-/
import Derived.Test.YtmgpimibnogcaaaLw
set_option linter.unusedVariables false
set_option linter.unusedSimpArgs false
namespace Go.Proofs.Ytmgpimibnogcaaa
open Go.RowKit

/-- What is taken, one behind the other: the addresses, and the blocks that are left. -/
inductive Stk (B0 : List Blk) : List Int → List Blk → Prop
  | nil : Stk B0 [] B0
  | snoc {ls : List Int} {pre : List Blk} {c : Blk} {post : List Blk} {n : Nat} : Stk B0 ls (pre ++ c :: post) → Wf (pre ++ c :: post) → c.us = false → n + 1 ≤ c.sz → Stk B0 (ls ++ [((1 + len pre : Nat) : Int)]) (pre ++ takeB n c ++ post)
theorem Stk.none {B0 Bs : List Blk} (h : Stk B0 [] Bs) : Bs = B0 := by
  generalize hL : ([] : List Int) = L at h
  cases h with
  | nil => rfl
  | snoc _ _ _ _ => simp at hL
theorem Stk.last {B0 Bs : List Blk} {ls : List Int} {x : Int} (h : Stk B0 (ls ++ [x]) Bs) : ∃ pre c post n, Stk B0 ls (pre ++ c :: post) ∧ Wf (pre ++ c :: post) ∧ c.us = false ∧ n + 1 ≤ c.sz ∧ x = ((1 + len pre : Nat) : Int) ∧ Bs = pre ++ takeB n c ++ post := by
  generalize hL : ls ++ [x] = L at h
  cases h with
  | nil => simp at hL
  | snoc h1 h2 h3 h4 =>
    obtain ⟨rfl, e⟩ := List.append_inj' hL rfl
    rw [List.cons.injEq] at e
    exact ⟨_, _, _, _, h1, h2, h3, h4, e.1, rfl⟩
section
variable {q p b : Nat} {Bs B0 : List Blk} {ls : List Int} {w w' : World}
theorem stk_free {x : Int} (hs : Stk B0 (ls ++ [x]) Bs) (h : Arena q p b Bs w) :
    Calls Try.prog 19 #[.pointer (some ⟨q, 0, none⟩), .int .i64 x] w fun e w' => e = .returned (.int .i64 0) ∧ (∃ Bs', Stk B0 ls Bs' ∧ Arena q p b Bs' w') ∧ Upd [q, p, b] w w' := by
  obtain ⟨pre, c, post, n, h1, h2, h3, h4, rfl, rfl⟩ := hs.last
  exact (arena_again q p b pre post c n w h2 h3 h4 h).mono fun e w' h => ⟨h.1, ⟨_, h1, h.2.1⟩, h.2.2⟩
theorem stk_alloc (hs : Stk B0 ls Bs) (h : Arena q p b Bs w) (n : Nat) (h1 : 1 ≤ n) (h2 : n ≤ 1048576) :
    Calls Try.prog 17 #[.pointer (some ⟨q, 0, none⟩), .int .i64 (n : Int)] w fun e w' => ∃ x f : Int, e = .returned (.tuple #[.int .i64 x, .int .i64 f]) ∧ ((f = 23 ∧ Arena q p b Bs w') ∨ (f = 0 ∧ ∃ Bs', Stk B0 (ls ++ [x]) Bs' ∧ Arena q p b Bs' w')) ∧ Upd [q, p, b] w w' := by
  refine (arena_alloc q p b Bs w h n).mono ?_
  rintro e w' (⟨h3, _, _⟩ | ⟨_, _, rfl, k, rfl⟩ | ⟨_, pre, c, post, rfl, hf, hz, _, rfl, ha, hu⟩)
  · omega
  · exact ⟨_, _, rfl, .inl ⟨rfl, h.drewN k⟩, (Upd.refl _ _).drewN k⟩
  · exact ⟨_, _, rfl, .inr ⟨rfl, _, hs.snoc h.1 hf hz, ha⟩, hu⟩
theorem arena_raw_nat (h : Arena q p b Bs w) (i : Nat) (y : Int) (hy : (words Bs)[i]? = some y) :
    Calls Try.prog 23 #[.pointer (some ⟨q, 0, none⟩), .int .i64 (i : Int)] w fun e w' => e = .returned (.tuple #[.int .i64 y, .bool true]) ∧ w' = w := by
  have hl := (List.getElem?_eq_some_iff.1 hy).1
  refine (arena_raw h _).mono ?_
  rintro e w' ⟨rfl, rfl⟩
  rw [if_pos ⟨by omega, by omega⟩, Int.toNat_natCast, hy]
  exact ⟨rfl, rfl⟩
theorem Arena.belowB {B : Nat} (h : Arena q p b Bs w) (hb : Below B w w') (hq : q < B ∧ p < B ∧ b < B) : Arena q p b Bs w' :=
  h.keep fun k hk => hb.block k (by rcases hk with rfl | rfl | rfl <;> omega)
theorem own_arena {base : Nat} {v : Value} {l : List Int} (h : IOwn w base v l) (hu : Upd [q, p, b] w w') (hq : q < base ∧ p < base ∧ b < base) : IOwn w' base v l :=
  own_upd h hu fun g hg hx => by
    have := own_block_ge h g hg
    simp only [List.mem_cons, List.not_mem_nil, or_false] at hx
    omega
theorem own_belowB {base B : Nat} {v : Value} {l : List Int} (h : IOwn w base v l) (hb : Below B w w') (hv : ∀ g, v.ownBlock = some g → g < B) : IOwn w' base v l := by
  obtain ⟨h1, h2⟩ := h
  refine ⟨h1, ?_⟩
  rcases h2 with h2 | ⟨g, cap, cur, hv', hg, hgg, r⟩
  · exact .inl h2
  · subst hv'
    exact .inr ⟨g, cap, cur, rfl, hg, (hb.block g (hv g rfl)).trans hgg, r⟩
theorem own_lt {base : Nat} {v : Value} {l : List Int} (h : IOwn w base v l) : ∀ g, v.ownBlock = some g → g < w.heap.size := fun g hg => (h.lt g hg).2
end
set_option maxRecDepth 1000000 in
set_option maxHeartbeats 12800000 in
theorem again_walk (x : Int) (ops : List Op) (v : Value) (sizes : List Int) (vs : Value) (W : World) (hx : InI x) (hr : ORow W.heap.size W v ops) (hsz : NumRow W.heap.size W vs sizes) :
    Calls Try.prog 8 #[.int .i64 x, v, vs] W fun e w' => e = .returned (.bool true) ∧ Below W.heap.size W w' := by
  obtain ⟨A, cap, rfl, _, hm⟩ := hr.form
  obtain ⟨A5, cap5, rfl, _, hm5⟩ := hsz.1.form
  unfold maxLen at hm hm5
  have HR := Lib.hid hr
  have HX := Lib.hid hx
  have HSZ := Lib.hid hsz
  obtain ⟨m, hmm⟩ : ∃ m, ops.length = m := ⟨_, rfl⟩
  obtain ⟨m5, hmm5⟩ : ∃ m5, sizes.length = m5 := ⟨_, rfl⟩
  rw [hmm] at hm HR ⊢
  rw [hmm5] at hm5 HSZ ⊢
  have HMM := Lib.hid hmm
  have HMM5 := Lib.hid hmm5
  obtain ⟨i0, hi0, hz0, hz1, hz2⟩ := info3
  clear hr hx hsz hmm hmm5
  go_enter Try.func8, Try.ntmps8
  go_wp2_with fail
  refine (shown_any W).mono ?_
  rintro e w1 ⟨rfl, hb1⟩
  have B1 := Lib.hid hb1
  clear hb1
  go_wp2_with fail
  refine (pick_any x 600 w1 HX.out (by decide) (by decide)).mono ?_
  rintro e w' ⟨rfl, rfl⟩
  have hN1 : 16 ≤ 16 + pickN x 600 := by omega
  have hN2 : 16 + pickN x 600 ≤ 616 := by have := pickN_lt x (n := 600) (by decide); omega
  have hNw : IntKind.i64.wrap (16 + (pickN x 600 : Int)) = ((16 + pickN x 600 : Nat) : Int) := by rw [IntWalk.i64_in _ (by omega)]; omega
  generalize hN : 16 + pickN x 600 = N at *
  clear hN
  go_wp2_with fail
  refine (new_any N w' hN1 (by omega)).mono ?_
  rintro e w2 ⟨q, p, b, rfl, ha, hq, hb⟩
  have A2 := Lib.hid ha
  have QQ := Lib.hid (show W.heap.size ≤ q ∧ W.heap.size ≤ p ∧ W.heap.size ≤ b by have := B1.out.size; omega)
  have B2 := Lib.hid (B1.out.trans (hb.mono B1.out.size))
  have L2 := Lib.hid (show 1 + len [freeBk (N - 1)] = N by rw [len_cons, len_nil, freeBk_sz (by omega)]; omega)
  clear ha hq hb B1 hNw
  go_wp2
  go_loopg [10] 60 (fun g iv wr => ∃ (k : Nat) (Bs : List Blk), iv = .int .i64 (k : Int) ∧ k + g = 60 ∧ Arena q p b Bs wr ∧ 1 + len Bs = N ∧ Below W.heap.size W wr)
  case atStart => exact ⟨0, _, rfl, rfl, A2.out, L2.out, B2.out⟩
  case round =>
    obtain ⟨k, Bs, rfl, hkg, ha, hl, hb⟩ := hrel
    have AR := Lib.hid ha
    have BR := Lib.hid hb
    have LR := Lib.hid hl
    clear ha hb hl A2 B2 L2
    by_cases hk : k < m ∧ k < 60
    · obtain ⟨hk1, hk2⟩ := hk
      have hk1i : (k : Int) < (m : Int) := by omega
      have hk2i : (k : Int) < 60 := by omega
      have hgg : gk - 1 < gk := by omega
      obtain ⟨o, ho⟩ : ∃ o, ops[k]? = some o := ⟨_, List.getElem?_eq_getElem (by rw [HMM.out]; exact hk1)⟩
      go_wp2_with fail
      refine (used_any q p b Bs _ AR.out).mono ?_
      rintro e w3 ⟨lv, rfl, hol, hbl⟩
      obtain ⟨la, lc, rfl⟩ := hol.form
      have OL := Lib.hid hol
      have A3 := Lib.hid (AR.out.below hbl)
      have B3 := Lib.hid (BR.out.trans (hbl.mono BR.out.size))
      clear hol hbl AR BR
      obtain ⟨hok, bo, oo, rfl, hbo, c0, c1, c2, c3, c4⟩ := (HR.out.below B3.out (Nat.le_refl _)).at_ ho
      have HOK := Lib.hid hok
      have hbs : bo < w3.heap.size := Nat.lt_of_lt_of_le hbo B3.out.size
      clear hok ho
      generalize hU : usedL 1 Bs = U at *
      have HU := Lib.hid hU
      clear hU
      generalize hnu : U.length = nu at *
      go_wp2_with fail
      refine (pick_any o.k 3 _ HOK.out.1 (by decide) (by decide)).mono ?_
      rintro e w' ⟨rfl, rfl⟩
      generalize pickN o.k 3 = t at *
      by_cases ht : 0 < t
      · have hti : (0 : Int) < (t : Int) := by omega
        go_wp2_with fail
        refine (pick_any o.b 20 _ HOK.out.2.2.1 (by decide) (by decide)).mono ?_
        rintro e w' ⟨rfl, rfl⟩
        have hp20 := pickN_lt o.b (n := 20) (by decide)
        have hw20 : IntKind.i64.wrap (1 + (pickN o.b 20 : Int)) = ((1 + pickN o.b 20 : Nat) : Int) := by rw [IntWalk.i64_in _ (by omega)]; omega
        generalize pickN o.b 20 = z at *
        go_wp2_with fail
        refine (alloc_some A3.out (1 + z) (by omega) (by omega)).mono ?_
        rintro e w4 ⟨x4, y4, Bs', rfl, ha, hl, hu⟩
        have A4 := Lib.hid ha
        have B4 := Lib.hid (step_below B3.out hu QQ.out (Nat.le_refl _))
        clear ha hu A3 B3 c0 c1 c2 c3 c4
        go_wp2
        go_roundg (gk - 1)
        case measure => exact hgg
        case rel => exact ⟨k + 1, Bs', by go_num, by omega, A4.out, by rw [hl, LR.out], B4.out⟩
      · obtain rfl : t = 0 := by omega
        by_cases hnz : nu = 0
        · subst hnz
          go_wp2_with fail
          refine (pick_any o.b 20 _ HOK.out.2.2.1 (by decide) (by decide)).mono ?_
          rintro e w' ⟨rfl, rfl⟩
          have hp20 := pickN_lt o.b (n := 20) (by decide)
          have hw20 : IntKind.i64.wrap (1 + (pickN o.b 20 : Int)) = ((1 + pickN o.b 20 : Nat) : Int) := by rw [IntWalk.i64_in _ (by omega)]; omega
          generalize pickN o.b 20 = z at *
          go_wp2_with fail
          refine (alloc_some A3.out (1 + z) (by omega) (by omega)).mono ?_
          rintro e w4 ⟨x4, y4, Bs', rfl, ha, hl, hu⟩
          have A4 := Lib.hid ha
          have B4 := Lib.hid (step_below B3.out hu QQ.out (Nat.le_refl _))
          clear ha hu A3 B3 c0 c1 c2 c3 c4
          go_wp2
          go_roundg (gk - 1)
          case measure => exact hgg
          case rel => exact ⟨k + 1, Bs', by go_num, by omega, A4.out, by rw [hl, LR.out], B4.out⟩
        · have hnzi : ((nu : Int) == 0) = false := by rw [beq_eq_false_iff_ne]; omega
          have hnu0 : 0 < nu := by omega
          have hnu1 : nu ≤ 1048576 := by
            have h1 := usedL_length 1 Bs
            rw [HU.out, hnu] at h1
            have h2 := LR.out
            omega
          obtain ⟨z, hz⟩ : ∃ z, U[pickN o.a nu]? = some z := ⟨_, List.getElem?_eq_getElem (by rw [hnu]; exact pickN_lt _ hnu0)⟩
          obtain ⟨bl, ol, rfl, hbl, cl⟩ := IRow.at_ (Row.of_own OL.out) hz
          have hpl := pickN_lt o.a hnu0
          have hpli : (pickN o.a nu : Int) < (nu : Int) := by omega
          have HF := Lib.hid (free_some A3.out z (by rw [HU.out]; exact List.mem_of_getElem? hz))
          clear hz
          go_wp2_with fail
          refine (pick_any o.a nu _ HOK.out.2.1 hnu0 hnu1).mono ?_
          rintro e w' ⟨rfl, rfl⟩
          go_wp2_with fail
          refine (HF.out).mono ?_
          rintro e w4 ⟨Bs', rfl, ha, hl, hu⟩
          have A4 := Lib.hid ha
          have B4 := Lib.hid (step_below B3.out hu QQ.out (Nat.le_refl _))
          clear ha hu A3 B3 c0 c1 c2 c3 c4 HF cl
          go_wp2
          go_roundg (gk - 1)
          case measure => exact hgg
          case rel => exact ⟨k + 1, Bs', by go_num, by omega, A4.out, by rw [hl, LR.out], B4.out⟩
    · by_cases hk1 : k < m
      · have hk1i : (k : Int) < (m : Int) := by omega
        have hk2i : ¬ (k : Int) < 60 := by omega
        obtain ⟨wS, rfl⟩ : ∃ x, x = wr := ⟨_, rfl⟩
        have HS := Lib.hid AR.out.lt
        have HWL := Lib.hid (show (words Bs).length = N by rw [words_length]; exact LR.out)
        go_wp2
        go_loopg [12, 13] N (fun g v iv wx => ∃ i : Nat, iv = .int .i64 (i : Int) ∧ i + g = N ∧ IOwn wx wS.heap.size v ((words Bs).take i) ∧ Below wS.heap.size wS wx)
        case atStart => exact ⟨0, rfl, by omega, IOwn.nil _ _, Below.refl _ _⟩
        case round =>
          obtain ⟨i, rfl, hig, ho, hb⟩ := hrel
          have hil : ((words Bs).take i).length = i := by rw [List.length_take, HWL.out]; omega
          obtain ⟨wa, wc, hv⟩ := own_form ho
          rw [hil] at hv
          subst hv
          have O1 := Lib.hid ho
          have B1 := Lib.hid hb
          have HIL := Lib.hid hil
          have hbs := hb.size
          clear ho hb hil
          by_cases hi : i < N
          · have hii : (i : Int) < (N : Int) := by omega
            have hgg : gk - 1 < gk := by omega
            obtain ⟨y, hy⟩ : ∃ y, (words Bs)[i]? = some y := ⟨_, List.getElem?_eq_getElem (by rw [HWL.out]; exact hi)⟩
            have HT := Lib.hid (show (words Bs).take (i + 1) = (words Bs).take i ++ [y] by rw [List.take_add_one, hy]; rfl)
            have HRAW := Lib.hid (arena_raw_nat (AR.out.below B1.out) i y hy)
            clear hy
            go_wp2_with fail
            refine HRAW.out.mono ?_
            rintro e w' ⟨rfl, rfl⟩
            have O1' := Lib.hid (show w'.ownsRow wS.heap.size 3 1 (.slice wa i wc) i (icells ((words Bs).take i)) by have := O1.out; unfold IOwn at this; rwa [HIL.out] at this)
            go_wp2_with (at_builtin; refine wpList_append_own2 rfl (.tmp 102) (.tmp 104) 32 rfl wS.heap.size 3 i0 (.int .i64 0) 1 8 Try.underlying32 hi0 hz0 hz1 hz2 rfl (by decide) _ _ _ rfl (O1'.out.alloc _) ⟨_, 0, none⟩ 1 1 [.int .i64 y] rfl rfl ?ua ?ub ?uc ?ud ?ue ?_)
            case ua => exact new_at _ [.int .i64 y] 3 _ (by simp)
            case ub => exact int_cells .i64 [y]
            case uc => unfold maxLen; omega
            case ud => omega
            case ue => simp; omega
            intro v3 w3 own3 hg3 hm3
            have O3 := Lib.hid (IOwn.more own3 HIL.out.symm rfl)
            have B3 := Lib.hid ((B1.out.alloc B1.out.size (.cells #[.int .i64 y] 3)).grown hg3 (by simp; omega) (fun k hk => by have := own_block_ge O1.out k hk; omega))
            clear own3 hg3 hm3
            go_wp2
            go_roundg (gk - 1)
            case measure => exact hgg
            case rel => exact ⟨i + 1, by go_num, by omega, by rw [HT.out]; exact O3.out, B3.out⟩
          · obtain rfl : N = i := by omega
            have hii : ¬ (N : Int) < (N : Int) := by omega
            obtain ⟨w6, rfl⟩ : ∃ x, x = wr := ⟨_, rfl⟩
            have OW0 := Lib.hid (show IOwn w6 wS.heap.size (.slice wa N wc) (words Bs) by have := O1.out; rwa [List.take_of_length_le (by rw [HWL.out]; exact Nat.le_refl _)] at this)
            have AK0 := Lib.hid (AR.out.below B1.out)
            have BK0 := Lib.hid (BR.out.trans (B1.out.mono BR.out.size))
            have HS6 := Lib.hid B1.out.size
            have HWS := Lib.hid (show W.heap.size ≤ w6.heap.size from BK0.out.size)
            have HWT := Lib.hid (own_lt OW0.out)
            clear O1 AR BR B1 LR
            go_wp2
            go_loopg [16, 17] 30 (fun g v iv wx => ∃ (j : Nat) (ls : List Int) (Bk : List Blk), iv = .int .i64 (j : Int) ∧ j + g = 30 ∧ ls.length ≤ j ∧ Stk Bs ls Bk ∧ Arena q p b Bk wx ∧ IOwn wx w6.heap.size v ls ∧ IOwn wx wS.heap.size (.slice wa N wc) (words Bs) ∧ Below W.heap.size W wx ∧ w6.heap.size ≤ wx.heap.size)
            case atStart => exact ⟨0, [], Bs, rfl, rfl, Nat.le_refl _, Stk.nil, AK0.out, IOwn.nil _ _, OW0.out, BK0.out, Nat.le_refl _⟩
            case round =>
              obtain ⟨j, ls, Bk, rfl, hjg, hlj, hsk, ha, hol, how, hb, hwz⟩ := hrel
              obtain ⟨la, lc, rfl⟩ := own_form hol
              have SK := Lib.hid hsk
              have AK := Lib.hid ha
              have OL := Lib.hid hol
              have OW := Lib.hid how
              have BK := Lib.hid hb
              clear hsk ha hol how hb AK0 OW0 BK0
              generalize hnl0 : ls.length = nl at *
              have HNL := Lib.hid hnl0
              clear hnl0
              by_cases hj : j < m5 ∧ j < 30
              · obtain ⟨hj1, hj2⟩ := hj
                have hj1i : (j : Int) < (m5 : Int) := by omega
                have hj2i : (j : Int) < 30 := by omega
                have hgg : gk - 1 < gk := by omega
                obtain ⟨y, hy⟩ : ∃ y, sizes[j]? = some y := ⟨_, List.getElem?_eq_getElem (by rw [HMM5.out]; exact hj1)⟩
                obtain ⟨bz, oz, rfl, hbz, cz⟩ := IRow.at_ (IRow.below HSZ.out.1 BK.out (Nat.le_refl _)) hy
                have hyi := HSZ.out.2 y (List.mem_of_getElem? hy)
                have HYI := Lib.hid hyi
                have hbzw : bz < wr.heap.size := Nat.lt_of_lt_of_le hbz BK.out.size
                clear hy hyi
                go_wp2_with fail
                refine (pick_any y 30 _ HYI.out (by decide) (by decide)).mono ?_
                rintro e w' ⟨rfl, rfl⟩
                have hp30 := pickN_lt y (n := 30) (by decide)
                have hw30 : IntKind.i64.wrap (1 + (pickN y 30 : Int)) = ((1 + pickN y 30 : Nat) : Int) := by rw [IntWalk.i64_in _ (by omega)]; omega
                generalize pickN y 30 = z at *
                go_wp2_with fail
                refine (stk_alloc SK.out AK.out (1 + z) (by omega) (by omega)).mono ?_
                rintro e w7 ⟨x7, f7, rfl, hcase, hu⟩
                have B7 := Lib.hid (step_below BK.out hu QQ.out (Nat.le_refl _))
                have OW7 := Lib.hid (own_arena OW.out hu HS.out)
                have OL7 := Lib.hid (own_arena OL.out hu (by have := HS.out; have := HS6.out; omega))
                have hz7 := hu.size
                clear hu cz OW OL BK hbzw AK
                rcases hcase with ⟨rfl, ha⟩ | ⟨rfl, Bn, hs, ha⟩
                · have A7 := Lib.hid ha
                  clear ha
                  go_wp2
                  go_roundg (gk - 1)
                  case measure => exact hgg
                  case rel => exact ⟨j + 1, ls, Bk, by go_num, by omega, by rw [HNL.out]; omega, SK.out, A7.out, by have := OL7.out; rwa [← HNL.out] at this ⊢, OW7.out, B7.out, by omega⟩
                · have A7 := Lib.hid ha
                  have S7 := Lib.hid hs
                  clear ha hs SK
                  have OL7' := Lib.hid (show w7.ownsRow w6.heap.size 3 1 (.slice la nl lc) nl (icells ls) by have := OL7.out; unfold IOwn at this; rwa [HNL.out] at this)
                  go_wp2_with (at_builtin; refine wpList_append_own2 rfl (.tmp 129) (.tmp 131) 32 rfl w6.heap.size 3 i0 (.int .i64 0) 1 8 Try.underlying32 hi0 hz0 hz1 hz2 rfl (by decide) _ _ _ rfl (OL7'.out.alloc _) ⟨_, 0, none⟩ 1 1 [.int .i64 x7] rfl rfl ?ua ?ub ?uc ?ud ?ue ?_)
                  case ua => exact new_at _ [.int .i64 x7] 3 _ (by simp)
                  case ub => exact int_cells .i64 [x7]
                  case uc => unfold maxLen; omega
                  case ud => omega
                  case ue => simp; omega
                  intro v8 w8 own8 hg8 hm8
                  have O8 := Lib.hid (IOwn.more own8 HNL.out.symm rfl)
                  have BG := Lib.hid (((Below.refl w6.heap.size w7).alloc (by omega) (.cells #[.int .i64 x7] 3)).grown hg8 (by simp; omega) (fun k hk => own_block_ge OL7.out k hk))
                  have A8 := Lib.hid (A7.out.belowB BG.out (by have := HS.out; have := HS6.out; omega))
                  have OW8 := Lib.hid (own_belowB OW7.out BG.out HWT.out)
                  have B8 := Lib.hid (B7.out.trans (BG.out.mono (by have := HWS.out; omega)))
                  have hz8 := BG.out.size
                  clear own8 hg8 hm8
                  go_wp2
                  go_roundg (gk - 1)
                  case measure => exact hgg
                  case rel => exact ⟨j + 1, ls ++ [x7], Bn, by go_num, by omega, by rw [List.length_append, HNL.out, List.length_singleton]; omega, S7.out, A8.out, O8.out, OW8.out, B8.out, by omega⟩
              · by_cases hj1 : j < m5
                · have hj1i : (j : Int) < (m5 : Int) := by omega
                  have hj2i : ¬ (j : Int) < 30 := by omega
                  have hj30 : j ≤ 30 := by omega
                  have hnl : nl ≤ 30 := by omega
                  go_wp2
                  go_loopg [20] nl (fun g iv wx => ∃ Bf : List Blk, iv = .int .i64 ((g : Int) - 1) ∧ g ≤ nl ∧ Stk Bs (ls.take g) Bf ∧ Arena q p b Bf wx ∧ IOwn wx w6.heap.size (.slice la nl lc) ls ∧ IOwn wx wS.heap.size (.slice wa N wc) (words Bs) ∧ Below W.heap.size W wx ∧ w6.heap.size ≤ wx.heap.size)
                  case atStart => exact ⟨Bk, by go_num, Nat.le_refl _, by rw [List.take_of_length_le (by rw [HNL.out]; exact Nat.le_refl _)]; exact SK.out, AK.out, OL.out, OW.out, BK.out, hwz⟩
                  case round =>
                    obtain ⟨Bf, rfl, hgl, hsk, ha, hol, how, hb, hwz2⟩ := hrel
                    have SF := Lib.hid hsk
                    have AF := Lib.hid ha
                    have OLF := Lib.hid hol
                    have OF := Lib.hid how
                    have BF := Lib.hid hb
                    clear hsk ha hol how hb SK AK OL OW BK
                    cases gk with
                    | zero =>
                      obtain rfl := SF.out.none.symm
                      have hneg : ¬ (0 : Int) ≤ ((0 : Nat) : Int) - 1 := by omega
                      obtain ⟨wF, rfl⟩ : ∃ x, x = wr := ⟨_, rfl⟩
                      go_wp2
                      go_loopg [21] N (fun g iv wx => ∃ i : Nat, iv = .int .i64 (i : Int) ∧ i + g = N ∧ wx = wF)
                      case atStart => exact ⟨0, rfl, by omega, rfl⟩
                      case round =>
                        obtain ⟨i, rfl, hig, rfl⟩ := hrel
                        by_cases hi : i < N
                        · have hii : (i : Int) < (N : Int) := by omega
                          have hgg : gk - 1 < gk := by omega
                          obtain ⟨y, hy⟩ : ∃ y, (words Bs)[i]? = some y := ⟨_, List.getElem?_eq_getElem (by rw [HWL.out]; exact hi)⟩
                          have HRAW := Lib.hid (arena_raw_nat AF.out i y hy)
                          obtain ⟨bw, ow, rfl, hbw, cw⟩ := IRow.at_ (Row.of_own OF.out) hy
                          have hyy : ((y == y) : Bool) = true := by simp
                          clear hy
                          go_wp2_with fail
                          refine HRAW.out.mono ?_
                          rintro e w' ⟨rfl, rfl⟩
                          go_wp2
                          go_roundg (gk - 1)
                          case measure => exact hgg
                          case rel => exact ⟨i + 1, by go_num, by omega, rfl⟩
                        · have hii : ¬ (i : Int) < (N : Int) := by omega
                          go_wp2
                          go_ret
                          exact ⟨rfl, BF.out⟩
                    | succ g =>
                      have hpos : (0 : Int) ≤ ((g + 1 : Nat) : Int) - 1 := by omega
                      have e1 : ((g + 1 : Nat) : Int) - 1 = (g : Int) := by omega
                      rw [e1] at hpos ⊢
                      clear e1
                      obtain ⟨y, hy⟩ : ∃ y, ls[g]? = some y := ⟨_, List.getElem?_eq_getElem (by rw [HNL.out]; omega)⟩
                      obtain ⟨bl, ol, rfl, hbl, cl⟩ := IRow.at_ (Row.of_own OLF.out) hy
                      have hgn : g < nl := by omega
                      have hgni : (g : Int) < (nl : Int) := by omega
                      have HF := Lib.hid (stk_free (ls := ls.take g) (x := y) (by have := SF.out; rw [List.take_add_one, hy] at this; exact this) AF.out)
                      have hgw : IntKind.i64.wrap ((g : Int) - 1) = (g : Int) - 1 := IntWalk.i64_in _ (by omega)
                      clear hy
                      go_wp2_with fail
                      refine HF.out.mono ?_
                      rintro e w9 ⟨rfl, ⟨Bn, hsn, han⟩, hu⟩
                      have SN := Lib.hid hsn
                      have AN := Lib.hid han
                      have BN := Lib.hid (step_below BF.out hu QQ.out (Nat.le_refl _))
                      have ON := Lib.hid (own_arena OF.out hu HS.out)
                      have OLN := Lib.hid (own_arena OLF.out hu (by have := HS.out; have := HS6.out; omega))
                      have HUS := Lib.hid hu.size
                      clear hsn han hu cl HF
                      go_wp2
                      go_roundg g
                      case measure => exact Nat.lt_succ_self g
                      case rel => exact ⟨Bn, rfl, by omega, SN.out, AN.out, OLN.out, ON.out, BN.out, Nat.le_trans hwz2 HUS.out⟩
                · have hj1i : ¬ (j : Int) < (m5 : Int) := by omega
                  have hj30 : j ≤ 30 := by omega
                  have hnl : nl ≤ 30 := by omega
                  go_wp2
                  go_loopg [20] nl (fun g iv wx => ∃ Bf : List Blk, iv = .int .i64 ((g : Int) - 1) ∧ g ≤ nl ∧ Stk Bs (ls.take g) Bf ∧ Arena q p b Bf wx ∧ IOwn wx w6.heap.size (.slice la nl lc) ls ∧ IOwn wx wS.heap.size (.slice wa N wc) (words Bs) ∧ Below W.heap.size W wx ∧ w6.heap.size ≤ wx.heap.size)
                  case atStart => exact ⟨Bk, by go_num, Nat.le_refl _, by rw [List.take_of_length_le (by rw [HNL.out]; exact Nat.le_refl _)]; exact SK.out, AK.out, OL.out, OW.out, BK.out, hwz⟩
                  case round =>
                    obtain ⟨Bf, rfl, hgl, hsk, ha, hol, how, hb, hwz2⟩ := hrel
                    have SF := Lib.hid hsk
                    have AF := Lib.hid ha
                    have OLF := Lib.hid hol
                    have OF := Lib.hid how
                    have BF := Lib.hid hb
                    clear hsk ha hol how hb SK AK OL OW BK
                    cases gk with
                    | zero =>
                      obtain rfl := SF.out.none.symm
                      have hneg : ¬ (0 : Int) ≤ ((0 : Nat) : Int) - 1 := by omega
                      obtain ⟨wF, rfl⟩ : ∃ x, x = wr := ⟨_, rfl⟩
                      go_wp2
                      go_loopg [21] N (fun g iv wx => ∃ i : Nat, iv = .int .i64 (i : Int) ∧ i + g = N ∧ wx = wF)
                      case atStart => exact ⟨0, rfl, by omega, rfl⟩
                      case round =>
                        obtain ⟨i, rfl, hig, rfl⟩ := hrel
                        by_cases hi : i < N
                        · have hii : (i : Int) < (N : Int) := by omega
                          have hgg : gk - 1 < gk := by omega
                          obtain ⟨y, hy⟩ : ∃ y, (words Bs)[i]? = some y := ⟨_, List.getElem?_eq_getElem (by rw [HWL.out]; exact hi)⟩
                          have HRAW := Lib.hid (arena_raw_nat AF.out i y hy)
                          obtain ⟨bw, ow, rfl, hbw, cw⟩ := IRow.at_ (Row.of_own OF.out) hy
                          have hyy : ((y == y) : Bool) = true := by simp
                          clear hy
                          go_wp2_with fail
                          refine HRAW.out.mono ?_
                          rintro e w' ⟨rfl, rfl⟩
                          go_wp2
                          go_roundg (gk - 1)
                          case measure => exact hgg
                          case rel => exact ⟨i + 1, by go_num, by omega, rfl⟩
                        · have hii : ¬ (i : Int) < (N : Int) := by omega
                          go_wp2
                          go_ret
                          exact ⟨rfl, BF.out⟩
                    | succ g =>
                      have hpos : (0 : Int) ≤ ((g + 1 : Nat) : Int) - 1 := by omega
                      have e1 : ((g + 1 : Nat) : Int) - 1 = (g : Int) := by omega
                      rw [e1] at hpos ⊢
                      clear e1
                      obtain ⟨y, hy⟩ : ∃ y, ls[g]? = some y := ⟨_, List.getElem?_eq_getElem (by rw [HNL.out]; omega)⟩
                      obtain ⟨bl, ol, rfl, hbl, cl⟩ := IRow.at_ (Row.of_own OLF.out) hy
                      have hgn : g < nl := by omega
                      have hgni : (g : Int) < (nl : Int) := by omega
                      have HF := Lib.hid (stk_free (ls := ls.take g) (x := y) (by have := SF.out; rw [List.take_add_one, hy] at this; exact this) AF.out)
                      have hgw : IntKind.i64.wrap ((g : Int) - 1) = (g : Int) - 1 := IntWalk.i64_in _ (by omega)
                      clear hy
                      go_wp2_with fail
                      refine HF.out.mono ?_
                      rintro e w9 ⟨rfl, ⟨Bn, hsn, han⟩, hu⟩
                      have SN := Lib.hid hsn
                      have AN := Lib.hid han
                      have BN := Lib.hid (step_below BF.out hu QQ.out (Nat.le_refl _))
                      have ON := Lib.hid (own_arena OF.out hu HS.out)
                      have OLN := Lib.hid (own_arena OLF.out hu (by have := HS.out; have := HS6.out; omega))
                      have HUS := Lib.hid hu.size
                      clear hsn han hu cl HF
                      go_wp2
                      go_roundg g
                      case measure => exact Nat.lt_succ_self g
                      case rel => exact ⟨Bn, rfl, by omega, SN.out, AN.out, OLN.out, ON.out, BN.out, Nat.le_trans hwz2 HUS.out⟩
      · have hk1i : ¬ (k : Int) < (m : Int) := by omega
        obtain ⟨wS, rfl⟩ : ∃ x, x = wr := ⟨_, rfl⟩
        have HS := Lib.hid AR.out.lt
        have HWL := Lib.hid (show (words Bs).length = N by rw [words_length]; exact LR.out)
        go_wp2
        go_loopg [12, 13] N (fun g v iv wx => ∃ i : Nat, iv = .int .i64 (i : Int) ∧ i + g = N ∧ IOwn wx wS.heap.size v ((words Bs).take i) ∧ Below wS.heap.size wS wx)
        case atStart => exact ⟨0, rfl, by omega, IOwn.nil _ _, Below.refl _ _⟩
        case round =>
          obtain ⟨i, rfl, hig, ho, hb⟩ := hrel
          have hil : ((words Bs).take i).length = i := by rw [List.length_take, HWL.out]; omega
          obtain ⟨wa, wc, hv⟩ := own_form ho
          rw [hil] at hv
          subst hv
          have O1 := Lib.hid ho
          have B1 := Lib.hid hb
          have HIL := Lib.hid hil
          have hbs := hb.size
          clear ho hb hil
          by_cases hi : i < N
          · have hii : (i : Int) < (N : Int) := by omega
            have hgg : gk - 1 < gk := by omega
            obtain ⟨y, hy⟩ : ∃ y, (words Bs)[i]? = some y := ⟨_, List.getElem?_eq_getElem (by rw [HWL.out]; exact hi)⟩
            have HT := Lib.hid (show (words Bs).take (i + 1) = (words Bs).take i ++ [y] by rw [List.take_add_one, hy]; rfl)
            have HRAW := Lib.hid (arena_raw_nat (AR.out.below B1.out) i y hy)
            clear hy
            go_wp2_with fail
            refine HRAW.out.mono ?_
            rintro e w' ⟨rfl, rfl⟩
            have O1' := Lib.hid (show w'.ownsRow wS.heap.size 3 1 (.slice wa i wc) i (icells ((words Bs).take i)) by have := O1.out; unfold IOwn at this; rwa [HIL.out] at this)
            go_wp2_with (at_builtin; refine wpList_append_own2 rfl (.tmp 102) (.tmp 104) 32 rfl wS.heap.size 3 i0 (.int .i64 0) 1 8 Try.underlying32 hi0 hz0 hz1 hz2 rfl (by decide) _ _ _ rfl (O1'.out.alloc _) ⟨_, 0, none⟩ 1 1 [.int .i64 y] rfl rfl ?ua ?ub ?uc ?ud ?ue ?_)
            case ua => exact new_at _ [.int .i64 y] 3 _ (by simp)
            case ub => exact int_cells .i64 [y]
            case uc => unfold maxLen; omega
            case ud => omega
            case ue => simp; omega
            intro v3 w3 own3 hg3 hm3
            have O3 := Lib.hid (IOwn.more own3 HIL.out.symm rfl)
            have B3 := Lib.hid ((B1.out.alloc B1.out.size (.cells #[.int .i64 y] 3)).grown hg3 (by simp; omega) (fun k hk => by have := own_block_ge O1.out k hk; omega))
            clear own3 hg3 hm3
            go_wp2
            go_roundg (gk - 1)
            case measure => exact hgg
            case rel => exact ⟨i + 1, by go_num, by omega, by rw [HT.out]; exact O3.out, B3.out⟩
          · obtain rfl : N = i := by omega
            have hii : ¬ (N : Int) < (N : Int) := by omega
            obtain ⟨w6, rfl⟩ : ∃ x, x = wr := ⟨_, rfl⟩
            have OW0 := Lib.hid (show IOwn w6 wS.heap.size (.slice wa N wc) (words Bs) by have := O1.out; rwa [List.take_of_length_le (by rw [HWL.out]; exact Nat.le_refl _)] at this)
            have AK0 := Lib.hid (AR.out.below B1.out)
            have BK0 := Lib.hid (BR.out.trans (B1.out.mono BR.out.size))
            have HS6 := Lib.hid B1.out.size
            have HWS := Lib.hid (show W.heap.size ≤ w6.heap.size from BK0.out.size)
            have HWT := Lib.hid (own_lt OW0.out)
            clear O1 AR BR B1 LR
            go_wp2
            go_loopg [16, 17] 30 (fun g v iv wx => ∃ (j : Nat) (ls : List Int) (Bk : List Blk), iv = .int .i64 (j : Int) ∧ j + g = 30 ∧ ls.length ≤ j ∧ Stk Bs ls Bk ∧ Arena q p b Bk wx ∧ IOwn wx w6.heap.size v ls ∧ IOwn wx wS.heap.size (.slice wa N wc) (words Bs) ∧ Below W.heap.size W wx ∧ w6.heap.size ≤ wx.heap.size)
            case atStart => exact ⟨0, [], Bs, rfl, rfl, Nat.le_refl _, Stk.nil, AK0.out, IOwn.nil _ _, OW0.out, BK0.out, Nat.le_refl _⟩
            case round =>
              obtain ⟨j, ls, Bk, rfl, hjg, hlj, hsk, ha, hol, how, hb, hwz⟩ := hrel
              obtain ⟨la, lc, rfl⟩ := own_form hol
              have SK := Lib.hid hsk
              have AK := Lib.hid ha
              have OL := Lib.hid hol
              have OW := Lib.hid how
              have BK := Lib.hid hb
              clear hsk ha hol how hb AK0 OW0 BK0
              generalize hnl0 : ls.length = nl at *
              have HNL := Lib.hid hnl0
              clear hnl0
              by_cases hj : j < m5 ∧ j < 30
              · obtain ⟨hj1, hj2⟩ := hj
                have hj1i : (j : Int) < (m5 : Int) := by omega
                have hj2i : (j : Int) < 30 := by omega
                have hgg : gk - 1 < gk := by omega
                obtain ⟨y, hy⟩ : ∃ y, sizes[j]? = some y := ⟨_, List.getElem?_eq_getElem (by rw [HMM5.out]; exact hj1)⟩
                obtain ⟨bz, oz, rfl, hbz, cz⟩ := IRow.at_ (IRow.below HSZ.out.1 BK.out (Nat.le_refl _)) hy
                have hyi := HSZ.out.2 y (List.mem_of_getElem? hy)
                have HYI := Lib.hid hyi
                have hbzw : bz < wr.heap.size := Nat.lt_of_lt_of_le hbz BK.out.size
                clear hy hyi
                go_wp2_with fail
                refine (pick_any y 30 _ HYI.out (by decide) (by decide)).mono ?_
                rintro e w' ⟨rfl, rfl⟩
                have hp30 := pickN_lt y (n := 30) (by decide)
                have hw30 : IntKind.i64.wrap (1 + (pickN y 30 : Int)) = ((1 + pickN y 30 : Nat) : Int) := by rw [IntWalk.i64_in _ (by omega)]; omega
                generalize pickN y 30 = z at *
                go_wp2_with fail
                refine (stk_alloc SK.out AK.out (1 + z) (by omega) (by omega)).mono ?_
                rintro e w7 ⟨x7, f7, rfl, hcase, hu⟩
                have B7 := Lib.hid (step_below BK.out hu QQ.out (Nat.le_refl _))
                have OW7 := Lib.hid (own_arena OW.out hu HS.out)
                have OL7 := Lib.hid (own_arena OL.out hu (by have := HS.out; have := HS6.out; omega))
                have hz7 := hu.size
                clear hu cz OW OL BK hbzw AK
                rcases hcase with ⟨rfl, ha⟩ | ⟨rfl, Bn, hs, ha⟩
                · have A7 := Lib.hid ha
                  clear ha
                  go_wp2
                  go_roundg (gk - 1)
                  case measure => exact hgg
                  case rel => exact ⟨j + 1, ls, Bk, by go_num, by omega, by rw [HNL.out]; omega, SK.out, A7.out, by have := OL7.out; rwa [← HNL.out] at this ⊢, OW7.out, B7.out, by omega⟩
                · have A7 := Lib.hid ha
                  have S7 := Lib.hid hs
                  clear ha hs SK
                  have OL7' := Lib.hid (show w7.ownsRow w6.heap.size 3 1 (.slice la nl lc) nl (icells ls) by have := OL7.out; unfold IOwn at this; rwa [HNL.out] at this)
                  go_wp2_with (at_builtin; refine wpList_append_own2 rfl (.tmp 129) (.tmp 131) 32 rfl w6.heap.size 3 i0 (.int .i64 0) 1 8 Try.underlying32 hi0 hz0 hz1 hz2 rfl (by decide) _ _ _ rfl (OL7'.out.alloc _) ⟨_, 0, none⟩ 1 1 [.int .i64 x7] rfl rfl ?ua ?ub ?uc ?ud ?ue ?_)
                  case ua => exact new_at _ [.int .i64 x7] 3 _ (by simp)
                  case ub => exact int_cells .i64 [x7]
                  case uc => unfold maxLen; omega
                  case ud => omega
                  case ue => simp; omega
                  intro v8 w8 own8 hg8 hm8
                  have O8 := Lib.hid (IOwn.more own8 HNL.out.symm rfl)
                  have BG := Lib.hid (((Below.refl w6.heap.size w7).alloc (by omega) (.cells #[.int .i64 x7] 3)).grown hg8 (by simp; omega) (fun k hk => own_block_ge OL7.out k hk))
                  have A8 := Lib.hid (A7.out.belowB BG.out (by have := HS.out; have := HS6.out; omega))
                  have OW8 := Lib.hid (own_belowB OW7.out BG.out HWT.out)
                  have B8 := Lib.hid (B7.out.trans (BG.out.mono (by have := HWS.out; omega)))
                  have hz8 := BG.out.size
                  clear own8 hg8 hm8
                  go_wp2
                  go_roundg (gk - 1)
                  case measure => exact hgg
                  case rel => exact ⟨j + 1, ls ++ [x7], Bn, by go_num, by omega, by rw [List.length_append, HNL.out, List.length_singleton]; omega, S7.out, A8.out, O8.out, OW8.out, B8.out, by omega⟩
              · by_cases hj1 : j < m5
                · have hj1i : (j : Int) < (m5 : Int) := by omega
                  have hj2i : ¬ (j : Int) < 30 := by omega
                  have hj30 : j ≤ 30 := by omega
                  have hnl : nl ≤ 30 := by omega
                  go_wp2
                  go_loopg [20] nl (fun g iv wx => ∃ Bf : List Blk, iv = .int .i64 ((g : Int) - 1) ∧ g ≤ nl ∧ Stk Bs (ls.take g) Bf ∧ Arena q p b Bf wx ∧ IOwn wx w6.heap.size (.slice la nl lc) ls ∧ IOwn wx wS.heap.size (.slice wa N wc) (words Bs) ∧ Below W.heap.size W wx ∧ w6.heap.size ≤ wx.heap.size)
                  case atStart => exact ⟨Bk, by go_num, Nat.le_refl _, by rw [List.take_of_length_le (by rw [HNL.out]; exact Nat.le_refl _)]; exact SK.out, AK.out, OL.out, OW.out, BK.out, hwz⟩
                  case round =>
                    obtain ⟨Bf, rfl, hgl, hsk, ha, hol, how, hb, hwz2⟩ := hrel
                    have SF := Lib.hid hsk
                    have AF := Lib.hid ha
                    have OLF := Lib.hid hol
                    have OF := Lib.hid how
                    have BF := Lib.hid hb
                    clear hsk ha hol how hb SK AK OL OW BK
                    cases gk with
                    | zero =>
                      obtain rfl := SF.out.none.symm
                      have hneg : ¬ (0 : Int) ≤ ((0 : Nat) : Int) - 1 := by omega
                      obtain ⟨wF, rfl⟩ : ∃ x, x = wr := ⟨_, rfl⟩
                      go_wp2
                      go_loopg [21] N (fun g iv wx => ∃ i : Nat, iv = .int .i64 (i : Int) ∧ i + g = N ∧ wx = wF)
                      case atStart => exact ⟨0, rfl, by omega, rfl⟩
                      case round =>
                        obtain ⟨i, rfl, hig, rfl⟩ := hrel
                        by_cases hi : i < N
                        · have hii : (i : Int) < (N : Int) := by omega
                          have hgg : gk - 1 < gk := by omega
                          obtain ⟨y, hy⟩ : ∃ y, (words Bs)[i]? = some y := ⟨_, List.getElem?_eq_getElem (by rw [HWL.out]; exact hi)⟩
                          have HRAW := Lib.hid (arena_raw_nat AF.out i y hy)
                          obtain ⟨bw, ow, rfl, hbw, cw⟩ := IRow.at_ (Row.of_own OF.out) hy
                          have hyy : ((y == y) : Bool) = true := by simp
                          clear hy
                          go_wp2_with fail
                          refine HRAW.out.mono ?_
                          rintro e w' ⟨rfl, rfl⟩
                          go_wp2
                          go_roundg (gk - 1)
                          case measure => exact hgg
                          case rel => exact ⟨i + 1, by go_num, by omega, rfl⟩
                        · have hii : ¬ (i : Int) < (N : Int) := by omega
                          go_wp2
                          go_ret
                          exact ⟨rfl, BF.out⟩
                    | succ g =>
                      have hpos : (0 : Int) ≤ ((g + 1 : Nat) : Int) - 1 := by omega
                      have e1 : ((g + 1 : Nat) : Int) - 1 = (g : Int) := by omega
                      rw [e1] at hpos ⊢
                      clear e1
                      obtain ⟨y, hy⟩ : ∃ y, ls[g]? = some y := ⟨_, List.getElem?_eq_getElem (by rw [HNL.out]; omega)⟩
                      obtain ⟨bl, ol, rfl, hbl, cl⟩ := IRow.at_ (Row.of_own OLF.out) hy
                      have hgn : g < nl := by omega
                      have hgni : (g : Int) < (nl : Int) := by omega
                      have HF := Lib.hid (stk_free (ls := ls.take g) (x := y) (by have := SF.out; rw [List.take_add_one, hy] at this; exact this) AF.out)
                      have hgw : IntKind.i64.wrap ((g : Int) - 1) = (g : Int) - 1 := IntWalk.i64_in _ (by omega)
                      clear hy
                      go_wp2_with fail
                      refine HF.out.mono ?_
                      rintro e w9 ⟨rfl, ⟨Bn, hsn, han⟩, hu⟩
                      have SN := Lib.hid hsn
                      have AN := Lib.hid han
                      have BN := Lib.hid (step_below BF.out hu QQ.out (Nat.le_refl _))
                      have ON := Lib.hid (own_arena OF.out hu HS.out)
                      have OLN := Lib.hid (own_arena OLF.out hu (by have := HS.out; have := HS6.out; omega))
                      have HUS := Lib.hid hu.size
                      clear hsn han hu cl HF
                      go_wp2
                      go_roundg g
                      case measure => exact Nat.lt_succ_self g
                      case rel => exact ⟨Bn, rfl, by omega, SN.out, AN.out, OLN.out, ON.out, BN.out, Nat.le_trans hwz2 HUS.out⟩
                · have hj1i : ¬ (j : Int) < (m5 : Int) := by omega
                  have hj30 : j ≤ 30 := by omega
                  have hnl : nl ≤ 30 := by omega
                  go_wp2
                  go_loopg [20] nl (fun g iv wx => ∃ Bf : List Blk, iv = .int .i64 ((g : Int) - 1) ∧ g ≤ nl ∧ Stk Bs (ls.take g) Bf ∧ Arena q p b Bf wx ∧ IOwn wx w6.heap.size (.slice la nl lc) ls ∧ IOwn wx wS.heap.size (.slice wa N wc) (words Bs) ∧ Below W.heap.size W wx ∧ w6.heap.size ≤ wx.heap.size)
                  case atStart => exact ⟨Bk, by go_num, Nat.le_refl _, by rw [List.take_of_length_le (by rw [HNL.out]; exact Nat.le_refl _)]; exact SK.out, AK.out, OL.out, OW.out, BK.out, hwz⟩
                  case round =>
                    obtain ⟨Bf, rfl, hgl, hsk, ha, hol, how, hb, hwz2⟩ := hrel
                    have SF := Lib.hid hsk
                    have AF := Lib.hid ha
                    have OLF := Lib.hid hol
                    have OF := Lib.hid how
                    have BF := Lib.hid hb
                    clear hsk ha hol how hb SK AK OL OW BK
                    cases gk with
                    | zero =>
                      obtain rfl := SF.out.none.symm
                      have hneg : ¬ (0 : Int) ≤ ((0 : Nat) : Int) - 1 := by omega
                      obtain ⟨wF, rfl⟩ : ∃ x, x = wr := ⟨_, rfl⟩
                      go_wp2
                      go_loopg [21] N (fun g iv wx => ∃ i : Nat, iv = .int .i64 (i : Int) ∧ i + g = N ∧ wx = wF)
                      case atStart => exact ⟨0, rfl, by omega, rfl⟩
                      case round =>
                        obtain ⟨i, rfl, hig, rfl⟩ := hrel
                        by_cases hi : i < N
                        · have hii : (i : Int) < (N : Int) := by omega
                          have hgg : gk - 1 < gk := by omega
                          obtain ⟨y, hy⟩ : ∃ y, (words Bs)[i]? = some y := ⟨_, List.getElem?_eq_getElem (by rw [HWL.out]; exact hi)⟩
                          have HRAW := Lib.hid (arena_raw_nat AF.out i y hy)
                          obtain ⟨bw, ow, rfl, hbw, cw⟩ := IRow.at_ (Row.of_own OF.out) hy
                          have hyy : ((y == y) : Bool) = true := by simp
                          clear hy
                          go_wp2_with fail
                          refine HRAW.out.mono ?_
                          rintro e w' ⟨rfl, rfl⟩
                          go_wp2
                          go_roundg (gk - 1)
                          case measure => exact hgg
                          case rel => exact ⟨i + 1, by go_num, by omega, rfl⟩
                        · have hii : ¬ (i : Int) < (N : Int) := by omega
                          go_wp2
                          go_ret
                          exact ⟨rfl, BF.out⟩
                    | succ g =>
                      have hpos : (0 : Int) ≤ ((g + 1 : Nat) : Int) - 1 := by omega
                      have e1 : ((g + 1 : Nat) : Int) - 1 = (g : Int) := by omega
                      rw [e1] at hpos ⊢
                      clear e1
                      obtain ⟨y, hy⟩ : ∃ y, ls[g]? = some y := ⟨_, List.getElem?_eq_getElem (by rw [HNL.out]; omega)⟩
                      obtain ⟨bl, ol, rfl, hbl, cl⟩ := IRow.at_ (Row.of_own OLF.out) hy
                      have hgn : g < nl := by omega
                      have hgni : (g : Int) < (nl : Int) := by omega
                      have HF := Lib.hid (stk_free (ls := ls.take g) (x := y) (by have := SF.out; rw [List.take_add_one, hy] at this; exact this) AF.out)
                      have hgw : IntKind.i64.wrap ((g : Int) - 1) = (g : Int) - 1 := IntWalk.i64_in _ (by omega)
                      clear hy
                      go_wp2_with fail
                      refine HF.out.mono ?_
                      rintro e w9 ⟨rfl, ⟨Bn, hsn, han⟩, hu⟩
                      have SN := Lib.hid hsn
                      have AN := Lib.hid han
                      have BN := Lib.hid (step_below BF.out hu QQ.out (Nat.le_refl _))
                      have ON := Lib.hid (own_arena OF.out hu HS.out)
                      have OLN := Lib.hid (own_arena OLF.out hu (by have := HS.out; have := HS6.out; omega))
                      have HUS := Lib.hid hu.size
                      clear hsn han hu cl HF
                      go_wp2
                      go_roundg g
                      case measure => exact Nat.lt_succ_self g
                      case rel => exact ⟨Bn, rfl, by omega, SN.out, AN.out, OLN.out, ON.out, BN.out, Nat.le_trans hwz2 HUS.out⟩
end Go.Proofs.Ytmgpimibnogcaaa
