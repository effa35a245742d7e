/-
  WALK of ArenaParts.
-/
import Derived.Test.YtmgpimibnogcaaaLw
set_option linter.unusedVariables false
set_option linter.unusedSimpArgs false
namespace Go.Proofs.Ytmgpimibnogcaaa
open Go.RowKit

/-- Is the last block free? -/
def lastFree (pre : List Blk) : Bool := match pre.getLast? with
  | some d => !d.us
  | none => false
theorem lastFree_snoc (pre : List Blk) (c : Blk) : lastFree (pre ++ [c]) = !c.us := by
  unfold lastFree
  rw [List.getLast?_append]
  rfl
theorem lastFree_no {pre r : List Blk} {c : Blk} (h : NoAdj (pre ++ c :: r)) (hu : c.us = false) : lastFree pre = false := by
  unfold lastFree
  cases hl : pre.getLast? with
  | none => rfl
  | some d =>
    have := noAdj_last pre c r h hu d hl
    show (!d.us) = false
    rw [this]
    rfl
set_option maxRecDepth 1000000 in
set_option maxHeartbeats 6400000 in
theorem parts_walk (x : Int) (ops : List Op) (v : Value) (W : World) (hx : InI x) (hr : ORow W.heap.size W v ops) :
    Calls Try.prog 6 #[.int .i64 x, v] W fun e w' => e = .returned (.bool true) ∧ Below W.heap.size W w' := by
  obtain ⟨A, cap, rfl, _, hm⟩ := hr.form
  unfold maxLen at hm
  have HR := Lib.hid hr
  have HX := Lib.hid hx
  obtain ⟨m, hmm⟩ : ∃ m, ops.length = m := ⟨_, rfl⟩
  rw [hmm] at hm HR ⊢
  have HMM := Lib.hid hmm
  clear hr hx hmm
  go_enter Try.func6, Try.ntmps6
  go_wp2_with fail
  refine (shown_any W).mono ?_
  rintro e w1 ⟨rfl, hb1⟩
  have B1 := Lib.hid hb1
  clear hb1
  go_wp2_with fail
  refine (pick_any x 1000 w1 HX.out (by decide) (by decide)).mono ?_
  rintro e w' ⟨rfl, rfl⟩
  have hN1 : 16 ≤ 16 + pickN x 1000 := by omega
  have hN2 : 16 + pickN x 1000 ≤ 1016 := by have := pickN_lt x (n := 1000) (by decide); omega
  have hNw : IntKind.i64.wrap (16 + (pickN x 1000 : Int)) = ((16 + pickN x 1000 : Nat) : Int) := by rw [IntWalk.i64_in _ (by omega)]; omega
  generalize hN : 16 + pickN x 1000 = N at *
  clear hN
  go_wp2_with fail
  refine (new_any N w' hN1 (by omega)).mono ?_
  rintro e w2 ⟨q, p, b, rfl, ha, hq, hb⟩
  have A2 := Lib.hid ha
  have QQ := Lib.hid (show W.heap.size ≤ q ∧ W.heap.size ≤ p ∧ W.heap.size ≤ b by have := B1.out.size; omega)
  have B2 := Lib.hid (B1.out.trans (hb.mono B1.out.size))
  have L2 := Lib.hid (show 1 + len [freeBk (N - 1)] = N by rw [len_cons, len_nil, freeBk_sz (by omega)]; omega)
  clear ha hq hb B1 hNw
  go_wp2
  go_loopg [8] 100 (fun g iv wr => ∃ (k : Nat) (Bs : List Blk), iv = .int .i64 (k : Int) ∧ k + g = 100 ∧ Arena q p b Bs wr ∧ 1 + len Bs = N ∧ Below W.heap.size W wr)
  case atStart => exact ⟨0, _, rfl, rfl, A2.out, L2.out, B2.out⟩
  case round =>
    obtain ⟨k, Bs, rfl, hkg, ha, hl, hb⟩ := hrel
    have AR := Lib.hid ha
    have BR := Lib.hid hb
    have LR := Lib.hid hl
    clear ha hb hl A2 B2 L2
    by_cases hk : k < m ∧ k < 100
    · obtain ⟨hk1, hk2⟩ := hk
      have hk1i : (k : Int) < (m : Int) := by omega
      have hk2i : (k : Int) < 100 := by omega
      obtain ⟨gO, rfl⟩ : ∃ gO, gk = gO + 1 := ⟨gk - 1, by omega⟩
      have hgg : gO < gO + 1 := by omega
      obtain ⟨o, ho⟩ : ∃ o, ops[k]? = some o := ⟨_, List.getElem?_eq_getElem (by rw [HMM.out]; exact hk1)⟩
      obtain ⟨hok, bo, oo, rfl, hbo, c0, c1, c2, c3, c4⟩ := (HR.out.below BR.out (Nat.le_refl _)).at_ ho
      have HOK := Lib.hid hok
      have hbs : bo < wr.heap.size := Nat.lt_of_lt_of_le hbo BR.out.size
      have HO0 := Lib.hid (heap_new wr (.cells #[.int .i64 o.k, .int .i64 o.a, .int .i64 o.b, .int .i64 o.c, .bool o.f] 31))
      have A0 := Lib.hid (AR.out.below ((Below.refl _ wr).alloc (Nat.le_refl _) (.cells #[.int .i64 o.k, .int .i64 o.a, .int .i64 o.b, .int .i64 o.c, .bool o.f] 31)))
      have B0 := Lib.hid (BR.out.alloc BR.out.size (.cells #[.int .i64 o.k, .int .i64 o.a, .int .i64 o.b, .int .i64 o.c, .bool o.f] 31))
      clear hok ho AR BR
      go_wp2_with fail
      clear c0 c1 c2 c3 c4 hbs
      generalize wr.alloc (.cells #[.int .i64 o.k, .int .i64 o.a, .int .i64 o.b, .int .i64 o.c, .bool o.f] 31) = w0 at *
      generalize wr.heap.size = go at *
      refine (used_any q p b Bs _ A0.out).mono ?_
      rintro e w3 ⟨lv, rfl, hol, hbl⟩
      obtain ⟨la, lc, rfl⟩ := hol.form
      have OL := Lib.hid hol
      have A3 := Lib.hid (A0.out.below hbl)
      have B3 := Lib.hid (B0.out.trans (hbl.mono B0.out.size))
      have h3 : w3.heap[go]? = some (.cells #[.int .i64 o.k, .int .i64 o.a, .int .i64 o.b, .int .i64 o.c, .bool o.f] 31 (0, 0)) := (hbl.block go (lt_of_block HO0.out)).trans HO0.out
      have c0 : w3.cell? ⟨go, 0, none⟩ = some (.int .i64 o.k) := cells_of h3 0
      have c1 : w3.cell? ⟨go, 1, none⟩ = some (.int .i64 o.a) := cells_of h3 1
      have c2 : w3.cell? ⟨go, 2, none⟩ = some (.int .i64 o.b) := cells_of h3 2
      have g1 := lt_of_block h3
      clear hol hbl A0 B0 h3 HO0
      generalize hU : usedL 1 Bs = U at *
      have HU := Lib.hid hU
      clear hU
      generalize hnu : U.length = nu at *
      go_wp2_with fail
      refine (pick_any o.k 3 _ HOK.out.1 (by decide) (by decide)).mono ?_
      rintro e w' ⟨rfl, rfl⟩
      generalize pickN o.k 3 = t at *
      by_cases ht : 0 < t
      · have hti : (0 : Int) < (t : Int) := by omega
        go_wp2_with fail
        refine (pick_any o.b 20 _ HOK.out.2.2.1 (by decide) (by decide)).mono ?_
        rintro e w' ⟨rfl, rfl⟩
        have hp20 := pickN_lt o.b (n := 20) (by decide)
        have hw20 : IntKind.i64.wrap (1 + (pickN o.b 20 : Int)) = ((1 + pickN o.b 20 : Nat) : Int) := by rw [IntWalk.i64_in _ (by omega)]; omega
        generalize pickN o.b 20 = z at *
        go_wp2_with fail
        refine (alloc_some A3.out (1 + z) (by omega) (by omega)).mono ?_
        rintro e w4 ⟨x4, y4, Bs', rfl, ha, hl, hu⟩
        have A4 := Lib.hid ha
        have B4 := Lib.hid (step_below B3.out hu QQ.out (Nat.le_refl _))
        have L4 := Lib.hid (show 1 + len Bs' = N by rw [hl]; exact LR.out)
        clear ha hu hl A3 B3 c0 c1 c2 g1 LR OL HU HOK
        go_wp2
        go_loopg [11, 12] Bs'.length (fun g fv av wx => ∃ (pre rest : List Blk), Bs' = pre ++ rest ∧ rest.length = g ∧ fv = .bool (lastFree pre) ∧ av = .int .i64 ((1 + len pre : Nat) : Int) ∧ wx = w4)
        case atStart => exact ⟨[], Bs', rfl, rfl, rfl, rfl, rfl⟩
        case round =>
          obtain ⟨pre, rest, hBs, hg, rfl, rfl, rfl⟩ := hrel
          cases rest with
          | nil =>
            rw [List.append_nil] at hBs
            subst hBs
            have hge : ((1 + len Bs' : Nat) : Int) = (N : Int) := by have := L4.out; omega
            have hge2 : ((N : Int) == (N : Int)) = true := by simp
            have hnn : ¬ (N : Int) < (N : Int) := by omega
            rw [hge]
            clear hge
            go_wp2
            go_roundg gO
            case measure => exact hgg
            case rel => exact ⟨k + 1, Bs', by go_num, by omega, A4.out, L4.out, B4.out⟩
          | cons c r =>
            have HRAW := Lib.hid (arena_raw_at hBs A4.out)
            have hat : At Bs' (1 + len pre) c := ⟨pre, r, hBs, rfl⟩
            obtain ⟨hh1, hh2, hh3⟩ := hat.head A4.out.1
            have hlt : ((1 + len pre : Nat) : Int) < (N : Int) := by have := L4.out; have := hat.facts.2.1; rw [words_length] at this; omega
            have hgg2 : r.length < gk := by rw [← hg, List.length_cons]; omega
            have HX := Lib.hid (show 1 + len pre + c.sz = 1 + len (pre ++ [c]) by rw [len_append, len_cons, len_nil]; omega)
            have HB := Lib.hid (show Bs' = (pre ++ [c]) ++ r by rw [hBs]; simp)
            have HNA := Lib.hid (show c.us = false → lastFree pre = false from fun hu => lastFree_no (by have := A4.out.1.adj; rw [hBs] at this; exact this) hu)
            have hcs : c.sz ≤ 1048576 := by have := hat.fits; rw [words_length] at this; have := L4.out; omega
            have hw1 : IntKind.i64.wrap (((1 + len pre : Nat) : Int) + (c.sz : Int)) = ((1 + len pre : Nat) : Int) + (c.sz : Int) := IntWalk.i64_in _ (by omega)
            have hdv := c.hd_half
            have hmd := c.hd_mod
            have hLF := Lib.hid (lastFree_snoc pre c)
            clear hat hh1 hBs hg
            generalize hn : 1 + len pre = a at *
            clear hn
            generalize c.hd = hd at *
            generalize lastFree pre = lf at *
            cases hu : c.us with
            | true =>
              rw [if_pos hu] at hmd
              rw [hu] at hLF
              clear hu HNA
              go_wp2_with fail
              refine (HRAW.out).mono ?_
              rintro e w' ⟨rfl, rfl⟩
              cases lf with
              | true =>
                go_wp2
                go_roundg r.length
                case measure => exact hgg2
                case rel => exact ⟨pre ++ [c], r, HB.out, rfl, by rw [hLF.out]; rfl, by first | (rw [← HX.out]; rfl) | (rw [hdv, ← HX.out]; rfl), rfl⟩
              | false =>
                go_wp2
                go_roundg r.length
                case measure => exact hgg2
                case rel => exact ⟨pre ++ [c], r, HB.out, rfl, by rw [hLF.out]; rfl, by first | (rw [← HX.out]; rfl) | (rw [hdv, ← HX.out]; rfl), rfl⟩
            | false =>
              rw [if_neg (by rw [hu]; decide)] at hmd
              rw [hu] at hLF
              obtain rfl := HNA.out hu
              clear hu HNA
              go_wp2_with fail
              refine (HRAW.out).mono ?_
              rintro e w' ⟨rfl, rfl⟩
              go_wp2
              go_roundg r.length
              case measure => exact hgg2
              case rel => exact ⟨pre ++ [c], r, HB.out, rfl, by rw [hLF.out]; rfl, by first | (rw [← HX.out]; rfl) | (rw [hdv, ← HX.out]; rfl), rfl⟩
      · obtain rfl : t = 0 := by omega
        by_cases hnz : nu = 0
        · subst hnz
          go_wp2_with fail
          refine (pick_any o.b 20 _ HOK.out.2.2.1 (by decide) (by decide)).mono ?_
          rintro e w' ⟨rfl, rfl⟩
          have hp20 := pickN_lt o.b (n := 20) (by decide)
          have hw20 : IntKind.i64.wrap (1 + (pickN o.b 20 : Int)) = ((1 + pickN o.b 20 : Nat) : Int) := by rw [IntWalk.i64_in _ (by omega)]; omega
          generalize pickN o.b 20 = z at *
          go_wp2_with fail
          refine (alloc_some A3.out (1 + z) (by omega) (by omega)).mono ?_
          rintro e w4 ⟨x4, y4, Bs', rfl, ha, hl, hu⟩
          have A4 := Lib.hid ha
          have B4 := Lib.hid (step_below B3.out hu QQ.out (Nat.le_refl _))
          have L4 := Lib.hid (show 1 + len Bs' = N by rw [hl]; exact LR.out)
          clear ha hu hl A3 B3 c0 c1 c2 g1 LR OL HU HOK
          go_wp2
          go_loopg [11, 12] Bs'.length (fun g fv av wx => ∃ (pre rest : List Blk), Bs' = pre ++ rest ∧ rest.length = g ∧ fv = .bool (lastFree pre) ∧ av = .int .i64 ((1 + len pre : Nat) : Int) ∧ wx = w4)
          case atStart => exact ⟨[], Bs', rfl, rfl, rfl, rfl, rfl⟩
          case round =>
            obtain ⟨pre, rest, hBs, hg, rfl, rfl, rfl⟩ := hrel
            cases rest with
            | nil =>
              rw [List.append_nil] at hBs
              subst hBs
              have hge : ((1 + len Bs' : Nat) : Int) = (N : Int) := by have := L4.out; omega
              have hge2 : ((N : Int) == (N : Int)) = true := by simp
              have hnn : ¬ (N : Int) < (N : Int) := by omega
              rw [hge]
              clear hge
              go_wp2
              go_roundg gO
              case measure => exact hgg
              case rel => exact ⟨k + 1, Bs', by go_num, by omega, A4.out, L4.out, B4.out⟩
            | cons c r =>
              have HRAW := Lib.hid (arena_raw_at hBs A4.out)
              have hat : At Bs' (1 + len pre) c := ⟨pre, r, hBs, rfl⟩
              obtain ⟨hh1, hh2, hh3⟩ := hat.head A4.out.1
              have hlt : ((1 + len pre : Nat) : Int) < (N : Int) := by have := L4.out; have := hat.facts.2.1; rw [words_length] at this; omega
              have hgg2 : r.length < gk := by rw [← hg, List.length_cons]; omega
              have HX := Lib.hid (show 1 + len pre + c.sz = 1 + len (pre ++ [c]) by rw [len_append, len_cons, len_nil]; omega)
              have HB := Lib.hid (show Bs' = (pre ++ [c]) ++ r by rw [hBs]; simp)
              have HNA := Lib.hid (show c.us = false → lastFree pre = false from fun hu => lastFree_no (by have := A4.out.1.adj; rw [hBs] at this; exact this) hu)
              have hcs : c.sz ≤ 1048576 := by have := hat.fits; rw [words_length] at this; have := L4.out; omega
              have hw1 : IntKind.i64.wrap (((1 + len pre : Nat) : Int) + (c.sz : Int)) = ((1 + len pre : Nat) : Int) + (c.sz : Int) := IntWalk.i64_in _ (by omega)
              have hdv := c.hd_half
              have hmd := c.hd_mod
              have hLF := Lib.hid (lastFree_snoc pre c)
              clear hat hh1 hBs hg
              generalize hn : 1 + len pre = a at *
              clear hn
              generalize c.hd = hd at *
              generalize lastFree pre = lf at *
              cases hu : c.us with
              | true =>
                rw [if_pos hu] at hmd
                rw [hu] at hLF
                clear hu HNA
                go_wp2_with fail
                refine (HRAW.out).mono ?_
                rintro e w' ⟨rfl, rfl⟩
                cases lf with
                | true =>
                  go_wp2
                  go_roundg r.length
                  case measure => exact hgg2
                  case rel => exact ⟨pre ++ [c], r, HB.out, rfl, by rw [hLF.out]; rfl, by first | (rw [← HX.out]; rfl) | (rw [hdv, ← HX.out]; rfl), rfl⟩
                | false =>
                  go_wp2
                  go_roundg r.length
                  case measure => exact hgg2
                  case rel => exact ⟨pre ++ [c], r, HB.out, rfl, by rw [hLF.out]; rfl, by first | (rw [← HX.out]; rfl) | (rw [hdv, ← HX.out]; rfl), rfl⟩
              | false =>
                rw [if_neg (by rw [hu]; decide)] at hmd
                rw [hu] at hLF
                obtain rfl := HNA.out hu
                clear hu HNA
                go_wp2_with fail
                refine (HRAW.out).mono ?_
                rintro e w' ⟨rfl, rfl⟩
                go_wp2
                go_roundg r.length
                case measure => exact hgg2
                case rel => exact ⟨pre ++ [c], r, HB.out, rfl, by rw [hLF.out]; rfl, by first | (rw [← HX.out]; rfl) | (rw [hdv, ← HX.out]; rfl), rfl⟩
        · have hnzi : ((nu : Int) == 0) = false := by rw [beq_eq_false_iff_ne]; omega
          have hnu0 : 0 < nu := by omega
          have hnu1 : nu ≤ 1048576 := by
            have h1 := usedL_length 1 Bs
            rw [HU.out, hnu] at h1
            have h2 := LR.out
            omega
          obtain ⟨z, hz⟩ : ∃ z, U[pickN o.a nu]? = some z := ⟨_, List.getElem?_eq_getElem (by rw [hnu]; exact pickN_lt _ hnu0)⟩
          obtain ⟨bl, ol, rfl, hbl, cl⟩ := IRow.at_ (Row.of_own OL.out) hz
          have hpl := pickN_lt o.a hnu0
          have hpli : (pickN o.a nu : Int) < (nu : Int) := by omega
          have HF := Lib.hid (free_some A3.out z (by rw [HU.out]; exact List.mem_of_getElem? hz))
          clear hz
          go_wp2_with fail
          refine (pick_any o.a nu _ HOK.out.2.1 hnu0 hnu1).mono ?_
          rintro e w' ⟨rfl, rfl⟩
          go_wp2_with fail
          refine (HF.out).mono ?_
          rintro e w4 ⟨Bs', rfl, ha, hl, hu⟩
          have A4 := Lib.hid ha
          have B4 := Lib.hid (step_below B3.out hu QQ.out (Nat.le_refl _))
          have L4 := Lib.hid (show 1 + len Bs' = N by rw [hl]; exact LR.out)
          clear ha hu hl A3 B3 c0 c1 c2 g1 LR OL HU HOK HF cl
          go_wp2
          go_loopg [11, 12] Bs'.length (fun g fv av wx => ∃ (pre rest : List Blk), Bs' = pre ++ rest ∧ rest.length = g ∧ fv = .bool (lastFree pre) ∧ av = .int .i64 ((1 + len pre : Nat) : Int) ∧ wx = w4)
          case atStart => exact ⟨[], Bs', rfl, rfl, rfl, rfl, rfl⟩
          case round =>
            obtain ⟨pre, rest, hBs, hg, rfl, rfl, rfl⟩ := hrel
            cases rest with
            | nil =>
              rw [List.append_nil] at hBs
              subst hBs
              have hge : ((1 + len Bs' : Nat) : Int) = (N : Int) := by have := L4.out; omega
              have hge2 : ((N : Int) == (N : Int)) = true := by simp
              have hnn : ¬ (N : Int) < (N : Int) := by omega
              rw [hge]
              clear hge
              go_wp2
              go_roundg gO
              case measure => exact hgg
              case rel => exact ⟨k + 1, Bs', by go_num, by omega, A4.out, L4.out, B4.out⟩
            | cons c r =>
              have HRAW := Lib.hid (arena_raw_at hBs A4.out)
              have hat : At Bs' (1 + len pre) c := ⟨pre, r, hBs, rfl⟩
              obtain ⟨hh1, hh2, hh3⟩ := hat.head A4.out.1
              have hlt : ((1 + len pre : Nat) : Int) < (N : Int) := by have := L4.out; have := hat.facts.2.1; rw [words_length] at this; omega
              have hgg2 : r.length < gk := by rw [← hg, List.length_cons]; omega
              have HX := Lib.hid (show 1 + len pre + c.sz = 1 + len (pre ++ [c]) by rw [len_append, len_cons, len_nil]; omega)
              have HB := Lib.hid (show Bs' = (pre ++ [c]) ++ r by rw [hBs]; simp)
              have HNA := Lib.hid (show c.us = false → lastFree pre = false from fun hu => lastFree_no (by have := A4.out.1.adj; rw [hBs] at this; exact this) hu)
              have hcs : c.sz ≤ 1048576 := by have := hat.fits; rw [words_length] at this; have := L4.out; omega
              have hw1 : IntKind.i64.wrap (((1 + len pre : Nat) : Int) + (c.sz : Int)) = ((1 + len pre : Nat) : Int) + (c.sz : Int) := IntWalk.i64_in _ (by omega)
              have hdv := c.hd_half
              have hmd := c.hd_mod
              have hLF := Lib.hid (lastFree_snoc pre c)
              clear hat hh1 hBs hg
              generalize hn : 1 + len pre = a at *
              clear hn
              generalize c.hd = hd at *
              generalize lastFree pre = lf at *
              cases hu : c.us with
              | true =>
                rw [if_pos hu] at hmd
                rw [hu] at hLF
                clear hu HNA
                go_wp2_with fail
                refine (HRAW.out).mono ?_
                rintro e w' ⟨rfl, rfl⟩
                cases lf with
                | true =>
                  go_wp2
                  go_roundg r.length
                  case measure => exact hgg2
                  case rel => exact ⟨pre ++ [c], r, HB.out, rfl, by rw [hLF.out]; rfl, by first | (rw [← HX.out]; rfl) | (rw [hdv, ← HX.out]; rfl), rfl⟩
                | false =>
                  go_wp2
                  go_roundg r.length
                  case measure => exact hgg2
                  case rel => exact ⟨pre ++ [c], r, HB.out, rfl, by rw [hLF.out]; rfl, by first | (rw [← HX.out]; rfl) | (rw [hdv, ← HX.out]; rfl), rfl⟩
              | false =>
                rw [if_neg (by rw [hu]; decide)] at hmd
                rw [hu] at hLF
                obtain rfl := HNA.out hu
                clear hu HNA
                go_wp2_with fail
                refine (HRAW.out).mono ?_
                rintro e w' ⟨rfl, rfl⟩
                go_wp2
                go_roundg r.length
                case measure => exact hgg2
                case rel => exact ⟨pre ++ [c], r, HB.out, rfl, by rw [hLF.out]; rfl, by first | (rw [← HX.out]; rfl) | (rw [hdv, ← HX.out]; rfl), rfl⟩
    · by_cases hk1 : k < m
      · have hk1i : (k : Int) < (m : Int) := by omega
        have hk2i : ¬ (k : Int) < 100 := by omega
        go_wp2
        go_ret
        exact ⟨rfl, BR.out⟩
      · have hk1i : ¬ (k : Int) < (m : Int) := by omega
        go_wp2
        go_ret
        exact ⟨rfl, BR.out⟩
end Go.Proofs.Ytmgpimibnogcaaa
