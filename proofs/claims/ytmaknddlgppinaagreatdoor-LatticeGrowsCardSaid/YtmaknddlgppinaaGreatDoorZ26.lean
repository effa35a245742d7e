/-
  CUT and joined from the texts of this seat: Ay Hc
-/
import Derived.Test.YtmaknddlgppinaaGreatDoorZ25
import Derived.Test.YtmaknddlgppinaaGreatDoorZ08
set_option linter.unusedVariables false
set_option linter.unusedSimpArgs false
namespace Go.Proofs.YtmaknddlgppinaaGreatDoor
open Go.RowKit
theorem members_no {x0 x1 x2 x3 x4 x5 x6 : Value} (A : Option Addr) (cap g pb n : Nat) {m : Nat} (hm : m = 0) (w : World) :
  Calls Tryz.prog 150 #[.agg #[x0, x1, x2, x3, x4, x5, x6], .slice A m cap, .func (.func g) #[] #[], .slice (some ⟨pb, 0, none⟩) n n] w fun e w' => e = .returned (.int .i64 0) ∧ Below w.heap.size w w' := by
 subst hm
 exact members_none A cap g pb n w
set_option maxRecDepth 1000000 in
set_option maxHeartbeats 1600000 in
theorem textErr_raw {B : Nat} (f : Fl) (v : Value) (w : World) (hf : FileAt B w v f) (hB : B ≤ w.heap.size) (ht : Texts f.pool) (c : Cn) (hc : c.text.size ≤ 1000000000000000) (h14 : c.tag = 1 ∨ c.tag = 4) :
  Calls Tryz.prog 176 #[v, constV c] w fun e w' => e = .returned (.int .i64 (textE f.pool c)) ∧ Below w.heap.size w w' := by
 obtain ⟨tag, text, n, a, b, d⟩ := c
 unfold constV
 simp only at hc h14 ⊢
 have HT := Lib.hid (fun V W hW hWB j => textOf_any (B := B) f V W hW hWB j)
 have HR := fun W => Lib.hid (runesErr_any text W hc)
 have HN := fun W => Lib.hid (nameErr_any (textP f.pool a) W)
 obtain ⟨Ap, cp, Ai, ci, Af, cf, Am, cm, rfl, hi⟩ := id hf
 have HBE := Lib.hid (((Below.refl w.heap.size w).alloc (Nat.le_refl _) (.cells #[.slice Ap f.pool.length cp, .int .i64 f.fl, .int .i64 f.this, .int .i64 f.super, .slice Ai f.ifs.length ci, .slice Af f.fds.length cf, .slice Am f.mts.length cm] 94)).alloc (by simp) (.cells #[.int .i64 tag, .string text, .int .i64 n, .int .i64 a, .int .i64 b, .int .i64 d] 138))
 have HFL := Lib.hid ((hf.alloc hB (.cells #[.slice Ap f.pool.length cp, .int .i64 f.fl, .int .i64 f.this, .int .i64 f.super, .slice Ai f.ifs.length ci, .slice Af f.fds.length cf, .slice Am f.mts.length cm] 94)).alloc (by simp; omega) (.cells #[.int .i64 tag, .string text, .int .i64 n, .int .i64 a, .int .i64 b, .int .i64 d] 138))
 have HE := Lib.hid (show textE f.pool ⟨tag, text, n, a, b, d⟩ = if tag = 1 then runesE text else if tag = 4 then nameE (textP f.pool a) else if tag = 7 then typeE (textP f.pool a)
  else if tag = 5 then pairE f.pool b d typeE else if tag = 6 then pairE f.pool b d sigE else 0 from rfl)
 generalize textE f.pool ⟨tag, text, n, a, b, d⟩ = R at *
 clear hi hf
 rcases h14 with rfl | rfl
 ·go_enter Tryz.func176, Tryz.ntmps176
  go_wp2_with fail
  refine (HR _).out.mono ?_
  rintro e w1 ⟨rfl, hb⟩
  have HB1 := Lib.hid (Below.link HBE.out hb)
  clear hb
  go_wp2
  go_ret
  exact ⟨ret_i (by rw [HE.out]; simp), HB1.out⟩
 ·go_enter Tryz.func176, Tryz.ntmps176
  go_wp2_with fail
  refine (HT.out _ _ HFL.out (by simp; omega) a).mono ?_
  rintro e w1 ⟨rfl, hb⟩
  have HB1 := Lib.hid (Below.link HBE.out hb)
  clear hb
  go_wp2_with fail
  refine (HN _).out.mono ?_
  rintro e w2 ⟨rfl, hb⟩
  have HB2 := Lib.hid (Below.link HB1.out hb)
  clear hb
  go_wp2
  go_ret
  exact ⟨ret_i (by rw [HE.out]; simp), HB2.out⟩
set_option maxRecDepth 1000000 in
set_option maxHeartbeats 6400000 in
theorem poolErr_raw {B : Nat} (f : Fl) (v : Value) (w : World) (hf : FileAt B w v f) (hB : B ≤ w.heap.size) (ht : Texts f.pool) (h14 : ∀ c ∈ f.pool, c.tag = 1 ∨ c.tag = 4) :
  Calls Tryz.prog 148 #[v] w fun e w' => e = .returned (.int .i64 (poolE f.pool)) ∧ Below w.heap.size w w' := by
 have HE := Lib.hid (show poolE f.pool = if 2000 < f.pool.length then 3 else firstErr (constE f.pool) f.pool from rfl)
 have hmax := hf.max.1
 obtain ⟨Ap, cp, Ai, ci, Af, cf, Am, cm, rfl, hi⟩ := id hf
 have HBE := Lib.hid ((Below.refl w.heap.size w).alloc (Nat.le_refl _) (.cells #[.slice Ap f.pool.length cp, .int .i64 f.fl, .int .i64 f.this, .int .i64 f.super, .slice Ai f.ifs.length ci, .slice Af f.fds.length cf, .slice Am f.mts.length cm] 94))
 have HFL := Lib.hid hf
 have HI := Lib.hid hi
 have HTX := Lib.hid ht
 have H14 := Lib.hid h14
 have HBX := Lib.hid (FBox.new Ap cp Ai ci Af cf Am cm f w)
 generalize poolE f.pool = R at *
 clear hi hf ht h14
 by_cases hlen : 2000 < f.pool.length
 ·have hl2 : (2000 : Int) < f.pool.length := by omega
  go_enter Tryz.func148, Tryz.ntmps148
  go_wp2
  go_step3
  go_wp2
  try rw [Exit.noGoto_ret]
  go_ret
  exact ⟨ret_i (by rw [HE.out, if_pos hlen]), HBE.out⟩
 ·have hle : f.pool.length ≤ 2000 := by omega
  have HE2 := Lib.hid (show R = firstErr (constE f.pool) f.pool by rw [HE.out, if_neg hlen])
  have hl2 : (f.pool.length : Int) ≤ 2000 := by omega
  clear hlen HE
  go_enter Tryz.func148, Tryz.ntmps148
  go_wp2
  go_step3
  go_wp2
  go_step3
  go_wp2
  go_loopg [3, 4] f.pool.length (fun g ev iv wx => ∃ (k : Nat) (E : Int), ev = .int .i64 E ∧ iv = .int .i64 k ∧ firstErr (constE f.pool) (f.pool.take k) = E ∧ k + g = f.pool.length ∧ FBox w.heap.size Ap cp Ai ci Af cf Am cm f wx ∧ Below w.heap.size w wx)
  case atStart => exact ⟨0, 0, rfl, rfl, rfl, by omega, HBX.out, HBE.out⟩
  case round =>
   obtain ⟨k, E, rfl, rfl, hE, hkg, hbox, hbel⟩ := hrel
   have HEK := Lib.hid hE
   have HBOX := Lib.hid hbox
   have HBEL := Lib.hid hbel
   have hlb := hbox.lt
   obtain ⟨c0, c1, c2, c3, c4, c5, c6⟩ := hbox.cells
   have hgg : gk - 1 < gk ∨ gk = 0 := by omega
   clear hE hbox hbel
   by_cases hk : k < f.pool.length
   ·by_cases hE0 : E = 0
    ·subst hE0
     have hgg : gk - 1 < gk := by omega
     obtain ⟨x, hx⟩ : ∃ x, f.pool[k]? = some x := ⟨_, List.getElem?_eq_getElem hk⟩
     have hI := HI.out.keep (w' := wr) (fun p hp => HBEL.out.cell (p := p) (by omega))
     obtain ⟨b, o, rfl, hb, x0, x1, x2, x3, x4, x5⟩ := hI.pool.at_ hx
     have HIR := Lib.hid hI
     have HNX := Lib.hid (firstErr_next (constE f.pool) f.pool k x hx HEK.out)
     have HXT := Lib.hid (And.intro (HTX.out x (List.mem_of_getElem? hx)) (H14.out x (List.mem_of_getElem? hx)))
     clear hI hx
     cases hrt : rightTagB x with
     | false =>
      have HCE := Lib.hid (show constE f.pool x = 7 by unfold constE; rw [hrt]; rfl)
      have HRT := fun W => Lib.hid (rightTag_at false x W hrt)
      clear hrt
      go_wp2_with fail
      refine (HRT _).out.mono ?_
      rintro e w2 ⟨rfl, hb2⟩
      have BX2 := Lib.hid ((HBOX.out.alloc (.cells #[.int .i64 x.tag, .string x.text, .int .i64 x.n, .int .i64 x.a, .int .i64 x.b, .int .i64 x.c] 138)).below hb2 (by simp; omega))
      have BE2 := Lib.hid (Below.link (HBEL.out.alloc (by omega) (.cells #[.int .i64 x.tag, .string x.text, .int .i64 x.n, .int .i64 x.a, .int .i64 x.b, .int .i64 x.c] 138)) hb2)
      have hlb2 := BX2.out.lt
      clear hb2 c0 c1 c2 c3 c4 c5 c6 x0 x1 x2 x3 x4 x5
      go_wp2
      go_roundg (gk - 1)
      case measure => exact hgg
      case rel => exact ⟨k + 1, 7, rfl, by go_num, by rw [HNX.out]; exact HCE.out, by omega, BX2.out, BE2.out⟩
     | true =>
      have HRT := fun W => Lib.hid (rightTag_at true x W hrt)
      have HR := Lib.hid hrt
      clear hrt
      go_wp2_with fail
      refine (HRT _).out.mono ?_
      rintro e w2 ⟨rfl, hb2⟩
      have BX2 := Lib.hid ((HBOX.out.alloc (.cells #[.int .i64 x.tag, .string x.text, .int .i64 x.n, .int .i64 x.a, .int .i64 x.b, .int .i64 x.c] 138)).below hb2 (by simp; omega))
      have BE2 := Lib.hid (Below.link (HBEL.out.alloc (by omega) (.cells #[.int .i64 x.tag, .string x.text, .int .i64 x.n, .int .i64 x.a, .int .i64 x.b, .int .i64 x.c] 138)) hb2)
      have cb2 := Below.keep hb2 (by simp) (heap_new wr (.cells #[.int .i64 x.tag, .string x.text, .int .i64 x.n, .int .i64 x.a, .int .i64 x.b, .int .i64 x.c] 138))
      have hlb2 := BX2.out.lt
      have hc2 : wr.heap.size < w2.heap.size := lt_of_block cb2
      have y0 : w2.cell? ⟨wr.heap.size, 0, none⟩ = some (.int .i64 x.tag) := cells_of cb2 0
      have CB2 := Lib.hid cb2
      clear cb2 hb2 c0 c1 c2 c3 c4 c5 c6 x0 x1 x2 x3 x4 x5
      go_wp2_with fail
      refine (linkTags_any x.tag _).mono ?_
      rintro e w3 ⟨rfl, hb3⟩
      have BX3 := Lib.hid ((BX2.out.below hb3 hlb2).alloc (.cells #[.int .i64 (tag1 x.tag), .int .i64 (tag2 x.tag), .int .i64 (tag2 x.tag)] 201))
      have BE3 := Lib.hid ((Below.link BE2.out hb3).alloc (Nat.le_trans (by omega) hb3.size) (.cells #[.int .i64 (tag1 x.tag), .int .i64 (tag2 x.tag), .int .i64 (tag2 x.tag)] 201))
      have CB3 := Lib.hid (heap_alloc_lt (o := .cells #[.int .i64 (tag1 x.tag), .int .i64 (tag2 x.tag), .int .i64 (tag2 x.tag)] 201) (Below.keep hb3 hc2 CB2.out))
      have TB3 := Lib.hid (heap_new w3 (.cells #[.int .i64 (tag1 x.tag), .int .i64 (tag2 x.tag), .int .i64 (tag2 x.tag)] 201))
      have cb3 := Below.keep hb3 hc2 CB2.out
      have z3 : w3.cell? ⟨wr.heap.size, 3, none⟩ = some (.int .i64 x.a) := cells_of cb3 3
      have z4 : w3.cell? ⟨wr.heap.size, 4, none⟩ = some (.int .i64 x.b) := cells_of cb3 4
      have z5 : w3.cell? ⟨wr.heap.size, 5, none⟩ = some (.int .i64 x.c) := cells_of cb3 5
      have hc3 : wr.heap.size < w3.heap.size := lt_of_block cb3
      have hlw : w.heap.size < wr.heap.size := hlb
      clear hb3 y0 cb3
      go_wp2
      generalize hw4 : w3.alloc (.cells #[.int .i64 (tag1 x.tag), .int .i64 (tag2 x.tag), .int .i64 (tag2 x.tag)] 201) = w4 at *
      generalize hT : w3.heap.size = T at *
      generalize hC : wr.heap.size = C at *
      clear hw4 hT hC z3 z4 z5
      obtain ⟨c0, c1, c2, c3, c4, c5, c6⟩ := BX3.out.cells
      have t0 : w4.cell? ⟨T, 0, none⟩ = some (.int .i64 (tag1 x.tag)) := cells_of TB3.out 0
      have t1 : w4.cell? ⟨T, 1, none⟩ = some (.int .i64 (tag2 x.tag)) := cells_of TB3.out 1
      have t2 : w4.cell? ⟨T, 2, none⟩ = some (.int .i64 (tag2 x.tag)) := cells_of TB3.out 2
      have hT4 := lt_of_block TB3.out
      have hC4 := lt_of_block CB3.out
      have hl4 := BX3.out.lt
      have i0 := fun W => run_idx0 (.int .i64 x.a) (.int .i64 x.b) (.int .i64 x.c) W
      have i1 := fun W => run_idx1 (.int .i64 x.a) (.int .i64 x.b) (.int .i64 x.c) W
      have i2 := fun W => run_idx2 (.int .i64 x.a) (.int .i64 x.b) (.int .i64 x.c) W
      have HIW4 := Lib.hid (HI.out.keep (w' := w4) (fun p hp => BE3.out.cell (p := p) (by omega)))
      have hC3 := hC4
      refine wp_loop_rounds 4 ?_
      rw [rounds_succ]
      go_wp2
      cases hL0 : linkB f.pool x.a (tag1 x.tag) with
      | false =>
       have HCE := Lib.hid (show constE f.pool x = 7 by unfold constE linksB; rw [if_pos HR.out, hL0]; simp)
       have HL := Lib.hid (fun V W hW hWB => rightLink_at (B := B) false f V W hW hWB x.a (tag1 x.tag) hL0)
       clear hL0
       refine wp_region_still_tail 5 (by kernel_rfl) (by kernel_rfl) ?_
       change wpStill _ _ w4.drew _ _ _
       simp only [List.take_succ_cons, List.take_zero, List.drop_succ_cons, List.drop_zero]
       repeat still_step
       refine wpStill_nil ?_
       change wpList _ _ _ _ _ w4.drew
       go_wp2_with fail
       refine (HL.out _ w4.drew (HIW4.out.at_.keep fun _ _ => rfl) (show B ≤ w4.heap.size by omega)).mono ?_
       rintro e w5 ⟨rfl, hb⟩
       have BX5 := Lib.hid (BX3.out.drew.below hb (show w.heap.size < w4.heap.size by omega))
       have BE5 := Lib.hid (Below.link BE3.out.drew hb)
       have hlb5 := BX5.out.lt
       clear hb c0 c1 c2 c3 c4 c5 c6 t0 t1 t2
       go_wp2
       go_roundg (gk - 1)
       case measure => exact hgg
       case rel => exact ⟨k + 1, 7, rfl, by go_num, by rw [HNX.out]; exact HCE.out, by omega, BX5.out, BE5.out⟩
      | true =>
       have HL0 := Lib.hid hL0
       have HL := Lib.hid (fun V W hW hWB => rightLink_at (B := B) true f V W hW hWB x.a (tag1 x.tag) hL0)
       clear hL0
       refine wp_region_still_tail 5 (by kernel_rfl) (by kernel_rfl) ?_
       change wpStill _ _ w4.drew _ _ _
       simp only [List.take_succ_cons, List.take_zero, List.drop_succ_cons, List.drop_zero]
       repeat still_step
       refine wpStill_nil ?_
       change wpList _ _ _ _ _ w4.drew
       go_wp2_with fail
       refine (HL.out _ w4.drew (HIW4.out.at_.keep fun _ _ => rfl) (show B ≤ w4.heap.size by omega)).mono ?_
       rintro e w5 ⟨rfl, hb⟩
       have BX4 := Lib.hid (BX3.out.drew.below hb (show w.heap.size < w4.heap.size by omega))
       have BE4 := Lib.hid (Below.link BE3.out.drew hb)
       have CB4 := Lib.hid (Below.keep (w := w4.drew) hb (show C < w4.heap.size by omega) CB3.out)
       have TB4 := Lib.hid (Below.keep (w := w4.drew) hb (show T < w4.heap.size by omega) TB3.out)
       have HIW5 := Lib.hid (HIW4.out.keep (w' := w5) fun p hp => hb.cell (p := p) (show p.block < w4.heap.size by omega))
       clear hb c0 c1 c2 c3 c4 c5 c6 t0 t1 t2 HL
       obtain ⟨c0, c1, c2, c3, c4, c5, c6⟩ := BX4.out.cells
       have t0 : w5.cell? ⟨T, 0, none⟩ = some (.int .i64 (tag1 x.tag)) := cells_of TB4.out 0
       have t1 : w5.cell? ⟨T, 1, none⟩ = some (.int .i64 (tag2 x.tag)) := cells_of TB4.out 1
       have t2 : w5.cell? ⟨T, 2, none⟩ = some (.int .i64 (tag2 x.tag)) := cells_of TB4.out 2
       have hT5 := lt_of_block TB4.out
       have hC5 := lt_of_block CB4.out
       have hl5 := BX4.out.lt
       go_wp2
       rw [rounds_succ]
       go_wp2
       cases hL1 : linkB f.pool x.b (tag2 x.tag) with
       | false =>
        have HCE := Lib.hid (show constE f.pool x = 7 by unfold constE linksB; rw [if_pos HR.out, HL0.out, hL1]; simp)
        have HL := Lib.hid (fun V W hW hWB => rightLink_at (B := B) false f V W hW hWB x.b (tag2 x.tag) hL1)
        clear hL1
        refine wp_region_still_tail 5 (by kernel_rfl) (by kernel_rfl) ?_
        change wpStill _ _ w5.drew _ _ _
        simp only [List.take_succ_cons, List.take_zero, List.drop_succ_cons, List.drop_zero]
        repeat still_step
        refine wpStill_nil ?_
        change wpList _ _ _ _ _ w5.drew
        go_wp2_with fail
        refine (HL.out _ w5.drew (HIW5.out.at_.keep fun _ _ => rfl) (show B ≤ w5.heap.size by omega)).mono ?_
        rintro e w6 ⟨rfl, hb⟩
        have BX5 := Lib.hid (BX4.out.drew.below hb (show w.heap.size < w5.heap.size by omega))
        have BE5 := Lib.hid (Below.link BE4.out.drew hb)
        have hlb5 := BX5.out.lt
        clear hb c0 c1 c2 c3 c4 c5 c6 t0 t1 t2
        go_wp2
        go_roundg (gk - 1)
        case measure => exact hgg
        case rel => exact ⟨k + 1, 7, rfl, by go_num, by rw [HNX.out]; exact HCE.out, by omega, BX5.out, BE5.out⟩
       | true =>
        have HL1 := Lib.hid hL1
        have HL := Lib.hid (fun V W hW hWB => rightLink_at (B := B) true f V W hW hWB x.b (tag2 x.tag) hL1)
        clear hL1
        refine wp_region_still_tail 5 (by kernel_rfl) (by kernel_rfl) ?_
        change wpStill _ _ w5.drew _ _ _
        simp only [List.take_succ_cons, List.take_zero, List.drop_succ_cons, List.drop_zero]
        repeat still_step
        refine wpStill_nil ?_
        change wpList _ _ _ _ _ w5.drew
        go_wp2_with fail
        refine (HL.out _ w5.drew (HIW5.out.at_.keep fun _ _ => rfl) (show B ≤ w5.heap.size by omega)).mono ?_
        rintro e w6 ⟨rfl, hb⟩
        have BX5 := Lib.hid (BX4.out.drew.below hb (show w.heap.size < w5.heap.size by omega))
        have BE5 := Lib.hid (Below.link BE4.out.drew hb)
        have CB5 := Lib.hid (Below.keep (w := w5.drew) hb (show C < w5.heap.size by omega) CB4.out)
        have TB5 := Lib.hid (Below.keep (w := w5.drew) hb (show T < w5.heap.size by omega) TB4.out)
        have HIW6 := Lib.hid (HIW5.out.keep (w' := w6) fun p hp => hb.cell (p := p) (show p.block < w5.heap.size by omega))
        clear hb c0 c1 c2 c3 c4 c5 c6 t0 t1 t2 HL
        obtain ⟨c0, c1, c2, c3, c4, c5, c6⟩ := BX5.out.cells
        have t0 : w6.cell? ⟨T, 0, none⟩ = some (.int .i64 (tag1 x.tag)) := cells_of TB5.out 0
        have t1 : w6.cell? ⟨T, 1, none⟩ = some (.int .i64 (tag2 x.tag)) := cells_of TB5.out 1
        have t2 : w6.cell? ⟨T, 2, none⟩ = some (.int .i64 (tag2 x.tag)) := cells_of TB5.out 2
        have hT6 := lt_of_block TB5.out
        have hC6 := lt_of_block CB5.out
        have hl6 := BX5.out.lt
        go_wp2
        rw [rounds_succ]
        go_wp2
        cases hL2 : linkB f.pool x.c (tag2 x.tag) with
        | false =>
         have HCE := Lib.hid (show constE f.pool x = 7 by unfold constE linksB; rw [if_pos HR.out, HL0.out, HL1.out, hL2]; simp)
         have HL := Lib.hid (fun V W hW hWB => rightLink_at (B := B) false f V W hW hWB x.c (tag2 x.tag) hL2)
         clear hL2
         refine wp_region_still_tail 5 (by kernel_rfl) (by kernel_rfl) ?_
         change wpStill _ _ w6.drew _ _ _
         simp only [List.take_succ_cons, List.take_zero, List.drop_succ_cons, List.drop_zero]
         repeat still_step
         refine wpStill_nil ?_
         change wpList _ _ _ _ _ w6.drew
         go_wp2_with fail
         refine (HL.out _ w6.drew (HIW6.out.at_.keep fun _ _ => rfl) (show B ≤ w6.heap.size by omega)).mono ?_
         rintro e w7 ⟨rfl, hb⟩
         have BX5 := Lib.hid (BX5.out.drew.below hb (show w.heap.size < w6.heap.size by omega))
         have BE5 := Lib.hid (Below.link BE5.out.drew hb)
         have hlb5 := BX5.out.lt
         clear hb c0 c1 c2 c3 c4 c5 c6 t0 t1 t2
         go_wp2
         go_roundg (gk - 1)
         case measure => exact hgg
         case rel => exact ⟨k + 1, 7, rfl, by go_num, by rw [HNX.out]; exact HCE.out, by omega, BX5.out, BE5.out⟩
        | true =>
         have HL2 := Lib.hid hL2
         have HL := Lib.hid (fun V W hW hWB => rightLink_at (B := B) true f V W hW hWB x.c (tag2 x.tag) hL2)
         clear hL2
         refine wp_region_still_tail 5 (by kernel_rfl) (by kernel_rfl) ?_
         change wpStill _ _ w6.drew _ _ _
         simp only [List.take_succ_cons, List.take_zero, List.drop_succ_cons, List.drop_zero]
         repeat still_step
         refine wpStill_nil ?_
         change wpList _ _ _ _ _ w6.drew
         go_wp2_with fail
         refine (HL.out _ w6.drew (HIW6.out.at_.keep fun _ _ => rfl) (show B ≤ w6.heap.size by omega)).mono ?_
         rintro e w7 ⟨rfl, hb⟩
         have BX6 := Lib.hid (BX5.out.drew.below hb (show w.heap.size < w6.heap.size by omega))
         have BE6 := Lib.hid (Below.link BE5.out.drew hb)
         have CB6 := Lib.hid (Below.keep (w := w6.drew) hb (show C < w6.heap.size by omega) CB5.out)
         have TB6 := Lib.hid (Below.keep (w := w6.drew) hb (show T < w6.heap.size by omega) TB5.out)
         have HIW7 := Lib.hid (HIW6.out.keep (w' := w7) fun p hp => hb.cell (p := p) (show p.block < w6.heap.size by omega))
         clear hb c0 c1 c2 c3 c4 c5 c6 t0 t1 t2 HL
         obtain ⟨c0, c1, c2, c3, c4, c5, c6⟩ := BX6.out.cells
         have t0 : w7.cell? ⟨T, 0, none⟩ = some (.int .i64 (tag1 x.tag)) := cells_of TB6.out 0
         have t1 : w7.cell? ⟨T, 1, none⟩ = some (.int .i64 (tag2 x.tag)) := cells_of TB6.out 1
         have t2 : w7.cell? ⟨T, 2, none⟩ = some (.int .i64 (tag2 x.tag)) := cells_of TB6.out 2
         have hT7 := lt_of_block TB6.out
         have hC7 := lt_of_block CB6.out
         have hl7 := BX6.out.lt
         have y0 : w7.cell? ⟨C, 0, none⟩ = some (.int .i64 x.tag) := cells_of CB6.out 0
         have y1 : w7.cell? ⟨C, 1, none⟩ = some (.string x.text) := cells_of CB6.out 1
         have y2 : w7.cell? ⟨C, 2, none⟩ = some (.int .i64 x.n) := cells_of CB6.out 2
         have y3 : w7.cell? ⟨C, 3, none⟩ = some (.int .i64 x.a) := cells_of CB6.out 3
         have y4 : w7.cell? ⟨C, 4, none⟩ = some (.int .i64 x.b) := cells_of CB6.out 4
         have y5 : w7.cell? ⟨C, 5, none⟩ = some (.int .i64 x.c) := cells_of CB6.out 5
         have HCE := Lib.hid (show constE f.pool x = textE f.pool x by unfold constE linksB; rw [if_pos HR.out, HL0.out, HL1.out, HL2.out]; simp)
         go_wp2
         rw [rounds_succ]
         go_wp2_with fail
         refine (textErr_raw f _ _ HIW7.out.at_ (by omega) HTX.out x HXT.out.1 HXT.out.2).mono ?_
         rintro e w9 ⟨rfl, hb⟩
         have BX9 := Lib.hid (BX6.out.below hb (by omega))
         have BE9 := Lib.hid (Below.link BE6.out hb)
         have hlb9 := BX9.out.lt
         clear hb c0 c1 c2 c3 c4 c5 c6 t0 t1 t2 y0 y1 y2 y3 y4 y5
         go_wp2
         go_roundg (gk - 1)
         case measure => exact hgg
         case rel => exact ⟨k + 1, _, rfl, by go_num, by rw [HNX.out]; exact HCE.out, by omega, BX9.out, BE9.out⟩
    ·have hne : (E == 0) = false := by simpa using hE0
     have HST := Lib.hid (firstErr_stop (constE f.pool) f.pool k (by rw [HEK.out]; exact hE0))
     go_wp2
     try rw [Exit.noGoto_ret]
     go_ret
     exact ⟨ret_i (by rw [HE2.out, HST.out, HEK.out]), HBEL.out⟩
   ·have hke : k = f.pool.length := by omega
    have HALL := Lib.hid (show firstErr (constE f.pool) f.pool = E by have := HEK.out; rwa [List.take_of_length_le (by omega)] at this)
    clear hke
    go_wp2
    try rw [Exit.noGoto_ret]
    go_ret
    exact ⟨ret_i (by rw [HE2.out, HALL.out]), HBEL.out⟩
set_option maxRecDepth 1000000 in
set_option maxHeartbeats 6400000 in
theorem partsErr_raw {B : Nat} (f : Fl) (v : Value) (w : World) (hf : FileAt B w v f) (hB : B ≤ w.heap.size) (ht : Texts f.pool) (h14 : ∀ c ∈ f.pool, c.tag = 1 ∨ c.tag = 4) (h1 : poolE f.pool = 0) (h2 : classE f = 0) (hfd : f.fds.length = 0) (hmt : f.mts.length = 0) :
  Calls Tryz.prog 134 #[v] w fun e w' => e = .returned (.int .i64 0) ∧ Below w.heap.size w w' := by
 have HP := Lib.hid (fun V W hW hWB => show Calls Tryz.prog 148 #[V] W _ from (h1 ▸ poolErr_raw (B := B) f V W hW hWB ht h14 : Calls Tryz.prog 148 #[V] W fun e w' => e = .returned (.int .i64 0) ∧ Below W.heap.size W w'))
 have HC := Lib.hid (fun V W hW hWB => show Calls Tryz.prog 149 #[V] W _ from (h2 ▸ classErr_any (B := B) f V W hW hWB : Calls Tryz.prog 149 #[V] W fun e w' => e = .returned (.int .i64 0) ∧ Below W.heap.size W w'))
 have HFD := Lib.hid hfd
 have HMT := Lib.hid hmt
 obtain ⟨Ap, cp, Ai, ci, Af, cf, Am, cm, rfl, hi⟩ := id hf
 have HI := Lib.hid hi
 have BE0 := Lib.hid ((Below.refl w.heap.size w).alloc (Nat.le_refl _) (.cells #[.slice Ap f.pool.length cp, .int .i64 f.fl, .int .i64 f.this, .int .i64 f.super, .slice Ai f.ifs.length ci, .slice Af f.fds.length cf, .slice Am f.mts.length cm] 94))
 have BF0 := Lib.hid (FBox.new Ap cp Ai ci Af cf Am cm f w)
 have FL0 := Lib.hid (hf.alloc hB (.cells #[.slice Ap f.pool.length cp, .int .i64 f.fl, .int .i64 f.this, .int .i64 f.super, .slice Ai f.ifs.length ci, .slice Af f.fds.length cf, .slice Am f.mts.length cm] 94))
 clear hi hf ht h14 h1 h2 hfd hmt
 go_enter Tryz.func134, Tryz.ntmps134
 go_wp2_with fail
 refine (HP.out _ _ FL0.out (by simp; omega)).mono ?_
 rintro e w1 ⟨rfl, hb⟩
 have BE1 := Lib.hid (Below.link BE0.out hb)
 have BF1 := Lib.hid (BF0.out.below hb (BF0.out.lt))
 have FL1 := Lib.hid (FL0.out.below hb (Nat.le_trans hB BE0.out.size))
 have lt1 := BF1.out.lt
 clear hb
 obtain ⟨c0, c1, c2, c3, c4, c5, c6⟩ := BF1.out.cells
 go_wp2_with fail
 refine (HC.out _ _ FL1.out (by omega)).mono ?_
 rintro e w2 ⟨rfl, hb⟩
 clear c0 c1 c2 c3 c4 c5 c6
 have BE2 := Lib.hid (Below.link BE1.out hb)
 have BF2 := Lib.hid (BF1.out.below hb (BF1.out.lt))
 have FL2 := Lib.hid (FL1.out.below hb (Nat.le_trans hB BE1.out.size))
 have lt2 := BF2.out.lt
 clear hb
 obtain ⟨c0, c1, c2, c3, c4, c5, c6⟩ := BF2.out.cells
 have FL2' := Lib.hid (FL2.out.alloc (by omega) (.cells #[.func (.func 152) #[] #[], .func (.func 153) #[] #[]] 205))
 have BF2' := Lib.hid (BF2.out.alloc (.cells #[.func (.func 152) #[] #[], .func (.func 153) #[] #[]] 205))
 have BE2' := Lib.hid (BE2.out.alloc (by omega) (.cells #[.func (.func 152) #[] #[], .func (.func 153) #[] #[]] 205))
 go_wp2_with fail
 refine (members_no _ _ _ _ _ HFD.out _).mono ?_
 rintro e w3 ⟨rfl, hb⟩
 have BE3 := Lib.hid (Below.link BE2'.out hb)
 have BF3 := Lib.hid (BF2'.out.below hb (BF2'.out.lt))
 have FL3 := Lib.hid (FL2'.out.below hb (by simp; omega))
 have lt3 := BF3.out.lt
 clear hb
 clear c0 c1 c2 c3 c4 c5 c6
 obtain ⟨c0, c1, c2, c3, c4, c5, c6⟩ := BF3.out.cells
 have FL3' := Lib.hid (FL3.out.alloc (by omega) (.cells #[.func (.func 155) #[] #[], .func (.func 156) #[] #[], .func (.func 157) #[] #[]] 205))
 have BE3' := Lib.hid (BE3.out.alloc (by omega) (.cells #[.func (.func 155) #[] #[], .func (.func 156) #[] #[], .func (.func 157) #[] #[]] 205))
 go_wp2_with fail
 refine (members_no _ _ _ _ _ HMT.out _).mono ?_
 rintro e w4 ⟨rfl, hb⟩
 have BE4 := Lib.hid (Below.link BE3'.out hb)
 clear hb c0 c1 c2 c3 c4 c5 c6
 go_wp2
 go_ret
 exact ⟨rfl, BE4.out⟩
def aggs : Value → List Value
 | .agg cs => cs.toList
 | _ => []
/-- A row of files. -/
def FsRow (B : Nat) (w : World) (v : Value) (fs : List Fl) : Prop :=
 ∃ vs : List Value, vs.length = fs.length ∧ (∀ (i : Nat) (f : Fl) (x : Value), fs[i]? = some f → vs[i]? = some x → FileAt B w x f) ∧ Row B 7 w v fs.length (vs.flatMap aggs)
theorem FsRow.keep {B : Nat} {w w' : World} {v : Value} {fs : List Fl} (h : FsRow B w v fs) (hk : ∀ p : Addr, p.block < B → w'.cell? p = w.cell? p) : FsRow B w' v fs := by
 obtain ⟨vs, h1, h2, h3⟩ := h
 exact ⟨vs, h1, fun i f x a b => (h2 i f x a b).keep hk, h3.keep hk⟩
theorem FsRow.more {B B' : Nat} {w : World} {v : Value} {fs : List Fl} (h : FsRow B w v fs) (hB : B ≤ B') : FsRow B' w v fs := by
 obtain ⟨vs, h1, h2, h3⟩ := h
 exact ⟨vs, h1, fun i f x a b => (h2 i f x a b).more hB, h3.more hB⟩
theorem FsRow.form {B : Nat} {w : World} {v : Value} {fs : List Fl} (h : FsRow B w v fs) : ∃ A cap, v = .slice A fs.length cap ∧ fs.length ≤ cap ∧ fs.length ≤ maxLen := by
 obtain ⟨vs, h1, _, A, cap, e, h2, h3, _⟩ := h
 exact ⟨A, cap, e, h2, h3⟩
theorem flat_seven {vs : List Value} {k : Nat} {x : Value} (h7 : ∀ y ∈ vs, (aggs y).length = 7) (hk : vs[k]? = some x) : ∀ j, j < 7 → (vs.flatMap aggs)[k * 7 + j]? = (aggs x)[j]? := by
 induction vs generalizing k with
 | nil => simp at hk
 | cons y r ih =>
  intro j hj
  have hy := h7 y (by simp)
  cases k with
  | zero =>
   simp only [List.getElem?_cons_zero, Option.some.injEq] at hk
   subst hk
   rw [List.flatMap_cons, Nat.zero_mul, Nat.zero_add, List.getElem?_append_left (by rw [hy]; exact hj)]
  | succ k =>
   simp only [List.getElem?_cons_succ] at hk
   rw [List.flatMap_cons, List.getElem?_append_right (by rw [hy, Nat.succ_mul]; omega), hy, show (k + 1) * 7 + j - 7 = k * 7 + j by rw [Nat.succ_mul]; omega]
   exact ih (fun z hz => h7 z (by simp [hz])) hk j hj
theorem FileAt.seven {B : Nat} {w : World} {v : Value} {f : Fl} (h : FileAt B w v f) : (aggs v).length = 7 := by
 obtain ⟨Ap, cp, Ai, ci, Af, cf, Am, cm, rfl, _⟩ := h
 rfl
/-- The file at place k. -/
theorem FsRow.at_ {B : Nat} {w : World} {A : Option Addr} {n cap k : Nat} {fs : List Fl} {f : Fl} (h : FsRow B w (.slice A n cap) fs) (hk : fs[k]? = some f) :
  ∃ b o Ap cp Ai ci Af cf Am cm, A = some ⟨b, o, none⟩ ∧ b < B ∧ FileIs B w Ap cp Ai ci Af cf Am cm f ∧ w.cell? ⟨b, o + k * 7, none⟩ = some (.slice Ap f.pool.length cp) ∧ w.cell? ⟨b, o + k * 7 + 1, none⟩ = some (.int .i64 f.fl) ∧ w.cell? ⟨b, o + k * 7 + 2, none⟩ = some (.int .i64 f.this) ∧
   w.cell? ⟨b, o + k * 7 + 3, none⟩ = some (.int .i64 f.super) ∧ w.cell? ⟨b, o + k * 7 + 4, none⟩ = some (.slice Ai f.ifs.length ci) ∧ w.cell? ⟨b, o + k * 7 + 5, none⟩ = some (.slice Af f.fds.length cf) ∧ w.cell? ⟨b, o + k * 7 + 6, none⟩ = some (.slice Am f.mts.length cm) := by
 obtain ⟨vs, hl, hr, A', cap', e, _, _, _, h2⟩ := h
 injection e with e1 e2 e3
 subst e1
 have hlt : k < fs.length := (List.getElem?_eq_some_iff.1 hk).1
 obtain ⟨b, o, e, hb, hc⟩ := h2 (by omega)
 have hv : vs[k]? = some (vs[k]'(by omega)) := List.getElem?_eq_getElem (by omega)
 have h7 : ∀ y ∈ vs, (aggs y).length = 7 := by
  intro y hy
  obtain ⟨i, hi, rfl⟩ := List.getElem_of_mem hy
  have hf : fs[i]? = some (fs[i]'(by omega)) := List.getElem?_eq_getElem (by omega)
  exact (hr i _ _ hf (List.getElem?_eq_getElem hi)).seven
 obtain ⟨Ap, cp, Ai, ci, Af, cf, Am, cm, ex, hx⟩ := hr k f _ hk hv
 have key : ∀ j u, j < 7 → (aggs (vs[k]'(by omega)))[j]? = some u → w.cell? ⟨b, o + k * 7 + j, none⟩ = some u := fun j u hj hu => by
  rw [Nat.add_assoc]
  exact hc _ _ ((flat_seven h7 hv j hj).trans hu)
 rw [ex] at key
 exact ⟨b, o, Ap, cp, Ai, ci, Af, cf, Am, cm, e, hb, hx, key 0 _ (by omega) rfl, key 1 _ (by omega) rfl, key 2 _ (by omega) rfl, key 3 _ (by omega) rfl, key 4 _ (by omega) rfl, key 5 _ (by omega) rfl, key 6 _ (by omega) rfl⟩
/-- What a file says of its class. -/
def pcOf (f : Fl) (at_ : Int) : PC := ⟨L (classP f.pool f.this), L (classP f.pool f.super), f.ifs.map (fun i => L (classP f.pool i)), decide (f.fl = 3), decide (f.fl ≠ 0), at_⟩
def fcs (fs : List Fl) (i : Nat) : List FC := match fs with
 | [] => []
 | f :: r => ((encF f).toNat, pcOf f i) :: fcs r (i + 1)
theorem fcs_length : ∀ (fs : List Fl) (i : Nat), (fcs fs i).length = fs.length
 | [], _ => rfl
 | f :: r, i => by simp [fcs, fcs_length r]
end Go.Proofs.YtmaknddlgppinaaGreatDoor
