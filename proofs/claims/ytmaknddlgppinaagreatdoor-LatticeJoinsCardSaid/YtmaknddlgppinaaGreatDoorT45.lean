/-
  CUT and joined from the texts of this seat: Nb
-/
import Derived.Test.YtmaknddlgppinaaGreatDoorT43
import Derived.Test.YtmaknddlgppinaaGreatDoorT44
set_option linter.unusedVariables false
set_option linter.unusedSimpArgs false
namespace Go.Proofs.YtmaknddlgppinaaGreatDoor
open Go.RowKit
theorem results42 : Tryz.f42.results = #[ResultVar.cell 6 64] := by kernel_rfl
section
variable {B p cap ow : Nat} {A : Option Addr} {cs : List PC}
set_option maxRecDepth 1000000 in
set_option maxHeartbeats 6400000 in
theorem RJoin_any {ka da na kb db nb : Int} {sa sb : ByteArray} {w : World} (h : RT B p A cap cs ow w) (G : Good cs) (hN : NamesOk cs) (hsa : sa.size ≤ 1000000) (hsb : sb.size ≤ 1000000) :
  Calls Tryz.prog 42 #[.pointer (some ⟨p, 0, none⟩), .agg #[.int .i64 ka, .int .i64 da, .string sa, .int .i64 na], .agg #[.int .i64 kb, .int .i64 db, .string sb, .int .i64 nb]] w fun e w' => KAns (joinK cs VT (⟨ka, (da, L sa), na⟩ : KN) (⟨kb, (db, L sb), nb⟩ : KN)) w w' e := by
 have HRA := Lib.hid (rightKB_iff ka da (L sa) na)
 have HRB := Lib.hid (rightKB_iff kb db (L sb) nb)
 have HEQ := Lib.hid (KN_eq ka da na kb db nb sa sb)
 have RA := Lib.hid (fun W => RRight64_any ka da na sa W hsa)
 have RB := Lib.hid (fun W => RRight64_any kb db nb sb W hsb)
 have HL := Lib.hid (fun W (hb : Below w.heap.size w W) => RLub_any (h.link hb) G hN da db sa sb hsa hsb)
 have HJ := Lib.hid (joinK.eq_1 cs VT (⟨ka, (da, L sa), na⟩ : KN) (⟨kb, (db, L sb), nb⟩ : KN))
 generalize joinK cs VT (⟨ka, (da, L sa), na⟩ : KN) (⟨kb, (db, L sb), nb⟩ : KN) = J at *
 have q1 := fun V : World => eql64 ka da na kb db nb sa sb V
 generalize rightKB ka da (L sa) na = ra at *
 generalize rightKB kb db (L sb) nb = rb at *
 have HSA := Lib.hid hsa
 have HSB := Lib.hid hsb
 clear h hsa hsb hN G
 have T0 := Lib.hid (KB3.start w ka da na kb db nb sa sb)
 go_enter Tryz.func42, Tryz.ntmps42
 go_wp2_with fail
 refine (RA.out _).mono ?_
 rintro e w1 ⟨rfl, hb1⟩
 have T1 := Lib.hid (T0.out.next hb1)
 clear hb1
 have cB := T1.out.two.b
 have b0 := kcells_of cB 0
 have b1 := kcells_of cB 1
 have b2 := kcells_of cB 2
 have b3 := kcells_of cB 3
 simp only [List.getElem?_toArray, List.getElem?_cons_succ, List.getElem?_cons_zero] at b0 b1 b2 b3
 clear cB
 go_wp2_with fail
 refine (RB.out _).mono ?_
 rintro e w2 ⟨rfl, hb2⟩
 have T2 := Lib.hid (T1.out.next hb2)
 clear hb2 b0 b1 b2 b3
 cases ra with
 | false =>
  have hJ := HJ.out.trans (if_pos (fun h => by have := HRA.out.2 h.1; cases this))
  have cR := T2.out.r
  have r0 := kcells_of cR 0
  have r1 := kcells_of cR 1
  have r2 := kcells_of cR 2
  have r3 := kcells_of cR 3
  have rf := kfree_of cR
  simp only [List.getElem?_toArray, List.getElem?_cons_succ, List.getElem?_cons_zero] at r0 r1 r2 r3
  have hlt := lt_of_block cR
  clear cR
  go_wp2
  obtain ⟨z0, z1, z2, z3, hbe⟩ := T2.out.ret 0 0 0 ⟨#[]⟩
  refine bodyPost_ret (v := .agg #[.int .i64 0, .int .i64 0, .string ⟨#[]⟩, .int .i64 0]) (by simp [results, results42, go_sem, z0, z1, z2, z3]) rfl ?_
  exact ⟨0, 0, 0, ⟨#[]⟩, rfl, hJ.symm, (by decide), hbe⟩
 | true =>
  cases rb with
  | false =>
   have hJ := HJ.out.trans (if_pos (fun h => by have := HRB.out.2 h.2; cases this))
   have cR := T2.out.r
   have r0 := kcells_of cR 0
   have r1 := kcells_of cR 1
   have r2 := kcells_of cR 2
   have r3 := kcells_of cR 3
   have rf := kfree_of cR
   simp only [List.getElem?_toArray, List.getElem?_cons_succ, List.getElem?_cons_zero] at r0 r1 r2 r3
   have hlt := lt_of_block cR
   clear cR
   go_wp2
   obtain ⟨z0, z1, z2, z3, hbe⟩ := T2.out.ret 0 0 0 ⟨#[]⟩
   refine bodyPost_ret (v := .agg #[.int .i64 0, .int .i64 0, .string ⟨#[]⟩, .int .i64 0]) (by simp [results, results42, go_sem, z0, z1, z2, z3]) rfl ?_
   exact ⟨0, 0, 0, ⟨#[]⟩, rfl, hJ.symm, (by decide), hbe⟩
  | true =>
   have HJ1 := Lib.hid (HJ.out.trans (if_neg (fun h => h ⟨HRA.out.1 (by first | rfl | trivial), HRB.out.1 (by first | rfl | trivial)⟩)))
   clear HJ
   have cA := T2.out.two.a
   have a0 := kcells_of cA 0
   have a1 := kcells_of cA 1
   have a2 := kcells_of cA 2
   have a3 := kcells_of cA 3
   simp only [List.getElem?_toArray, List.getElem?_cons_succ, List.getElem?_cons_zero] at a0 a1 a2 a3
   clear cA
   have cB := T2.out.two.b
   have b0 := kcells_of cB 0
   have b1 := kcells_of cB 1
   have b2 := kcells_of cB 2
   have b3 := kcells_of cB 3
   simp only [List.getElem?_toArray, List.getElem?_cons_succ, List.getElem?_cons_zero] at b0 b1 b2 b3
   clear cB
   by_cases hq : ka = kb ∧ (da = db ∧ sa = sb) ∧ na = nb
   ·rw [decide_eq_true hq] at q1
    have hJ := HJ1.out.trans (if_pos (HEQ.out.2 hq))
    clear hq
    have cR := T2.out.r
    have r0 := kcells_of cR 0
    have r1 := kcells_of cR 1
    have r2 := kcells_of cR 2
    have r3 := kcells_of cR 3
    have rf := kfree_of cR
    simp only [List.getElem?_toArray, List.getElem?_cons_succ, List.getElem?_cons_zero] at r0 r1 r2 r3
    have hlt := lt_of_block cR
    clear cR
    go_wp2
    obtain ⟨z0, z1, z2, z3, hbe⟩ := T2.out.ret ka da na sa
    refine bodyPost_ret (v := .agg #[.int .i64 ka, .int .i64 da, .string sa, .int .i64 na]) (by simp [results, results42, go_sem, z0, z1, z2, z3]) rfl ?_
    exact ⟨ka, da, na, sa, rfl, hJ.symm, HSA.out, hbe⟩
   ·rw [decide_eq_false hq] at q1
    have HJ2 := Lib.hid (HJ1.out.trans (if_neg (fun h => hq (HEQ.out.1 h))))
    clear hq HJ1
    by_cases x2 : ka = 2
    ·have e1 : decide (ka = 2) = true := decide_eq_true x2
     have fe1 : (ka == 2) = true := by simpa using e1
     have e2 : decide (ka = 3) = false := decide_eq_false (by omega)
     have fe2 : (ka == 3) = false := by simpa using e2
     by_cases y3 : kb = 3
     ·have e3 : decide (kb = 3) = true := decide_eq_true y3
      have fe3 : (kb == 3) = true := by simpa using e3
      have hJ := HJ2.out.trans (if_pos ⟨x2, y3⟩)
      clear x2 y3
      have cR := T2.out.r
      have r0 := kcells_of cR 0
      have r1 := kcells_of cR 1
      have r2 := kcells_of cR 2
      have r3 := kcells_of cR 3
      have rf := kfree_of cR
      simp only [List.getElem?_toArray, List.getElem?_cons_succ, List.getElem?_cons_zero] at r0 r1 r2 r3
      have hlt := lt_of_block cR
      clear cR
      go_wp2
      obtain ⟨z0, z1, z2, z3, hbe⟩ := T2.out.ret kb db nb sb
      refine bodyPost_ret (v := .agg #[.int .i64 kb, .int .i64 db, .string sb, .int .i64 nb]) (by simp [results, results42, go_sem, z0, z1, z2, z3]) rfl ?_
      exact ⟨kb, db, nb, sb, rfl, hJ.symm, HSB.out, hbe⟩
     ·have e3 : decide (kb = 3) = false := decide_eq_false y3
      have fe3 : (kb == 3) = false := by simpa using e3
      have hJ := HJ2.out.trans ((if_neg (fun h => y3 h.2)).trans ((if_neg (fun h => absurd h.1 (by show ¬ ka = 3; omega))).trans (if_neg (fun h => y3 h.2.1))))
      clear x2 y3
      have cR := T2.out.r
      have r0 := kcells_of cR 0
      have r1 := kcells_of cR 1
      have r2 := kcells_of cR 2
      have r3 := kcells_of cR 3
      have rf := kfree_of cR
      simp only [List.getElem?_toArray, List.getElem?_cons_succ, List.getElem?_cons_zero] at r0 r1 r2 r3
      have hlt := lt_of_block cR
      clear cR
      go_wp2
      obtain ⟨z0, z1, z2, z3, hbe⟩ := T2.out.ret 0 0 0 ⟨#[]⟩
      refine bodyPost_ret (v := .agg #[.int .i64 0, .int .i64 0, .string ⟨#[]⟩, .int .i64 0]) (by simp [results, results42, go_sem, z0, z1, z2, z3]) rfl ?_
      exact ⟨0, 0, 0, ⟨#[]⟩, rfl, hJ.symm, (by decide), hbe⟩
    ·have e1 : decide (ka = 2) = false := decide_eq_false x2
     have fe1 : (ka == 2) = false := by simpa using e1
     have HJ3 := Lib.hid (HJ2.out.trans (if_neg (fun h => x2 h.1)))
     clear HJ2 x2
     by_cases x3 : ka = 3
     ·have e2 : decide (ka = 3) = true := decide_eq_true x3
      have fe2 : (ka == 3) = true := by simpa using e2
      by_cases y2 : kb = 2
      ·have e3 : decide (kb = 2) = true := decide_eq_true y2
       have fe3 : (kb == 2) = true := by simpa using e3
       have hJ := HJ3.out.trans (if_pos ⟨x3, y2⟩)
       clear x3 y2
       have cR := T2.out.r
       have r0 := kcells_of cR 0
       have r1 := kcells_of cR 1
       have r2 := kcells_of cR 2
       have r3 := kcells_of cR 3
       have rf := kfree_of cR
       simp only [List.getElem?_toArray, List.getElem?_cons_succ, List.getElem?_cons_zero] at r0 r1 r2 r3
       have hlt := lt_of_block cR
       clear cR
       go_wp2
       obtain ⟨z0, z1, z2, z3, hbe⟩ := T2.out.ret ka da na sa
       refine bodyPost_ret (v := .agg #[.int .i64 ka, .int .i64 da, .string sa, .int .i64 na]) (by simp [results, results42, go_sem, z0, z1, z2, z3]) rfl ?_
       exact ⟨ka, da, na, sa, rfl, hJ.symm, HSA.out, hbe⟩
      ·have e3 : decide (kb = 2) = false := decide_eq_false y2
       have fe3 : (kb == 2) = false := by simpa using e3
       have HJ4 := Lib.hid (HJ3.out.trans (if_neg (fun h => y2 h.2)))
       clear HJ3 y2
       by_cases y3 : kb = 3
       ·have e4 : decide (kb = 3) = true := decide_eq_true y3
        have fe4 : (kb == 3) = true := by simpa using e4
        have X3 := Lib.hid x3
        have Y3 := Lib.hid y3
        clear x3 y3
        go_wp2_with fail
        refine (HL.out _ T2.out.two.below).mono ?_
        rintro e w3 ⟨d, s, ok, rfl, hok, hty, hno, hsz, hb3⟩
        have T3 := Lib.hid (T2.out.next hb3)
        have HOK := Lib.hid hok
        have HTY := Lib.hid hty
        have HSZ := Lib.hid hsz
        clear hok hty hno hsz hb3 a0 a1 a2 a3 b0 b1 b2 b3
        have T4 := Lib.hid (T3.out.next ((Below.refl _ _).alloc (Nat.le_refl _) (.cells #[.int .i64 d, .string s] 31)))
        cases ok with
        | false =>
         have hJ := HJ4.out.trans (if_neg (fun h => by have := HOK.out.2 h.2.2; cases this))
         have cR := T4.out.r
         have r0 := kcells_of cR 0
         have r1 := kcells_of cR 1
         have r2 := kcells_of cR 2
         have r3 := kcells_of cR 3
         have rf := kfree_of cR
         simp only [List.getElem?_toArray, List.getElem?_cons_succ, List.getElem?_cons_zero] at r0 r1 r2 r3
         have hlt := lt_of_block cR
         clear cR
         go_wp2
         obtain ⟨z0, z1, z2, z3, hbe⟩ := T4.out.ret 0 0 0 ⟨#[]⟩
         refine bodyPost_ret (v := .agg #[.int .i64 0, .int .i64 0, .string ⟨#[]⟩, .int .i64 0]) (by simp [results, results42, go_sem, z0, z1, z2, z3]) rfl ?_
         exact ⟨0, 0, 0, ⟨#[]⟩, rfl, hJ.symm, (by decide), hbe⟩
        | true =>
         have hJ := HJ4.out.trans (if_pos ⟨X3.out, Y3.out, HOK.out.1 (by first | rfl | trivial)⟩)
         have cR := T4.out.r
         have r0 := kcells_of cR 0
         have r1 := kcells_of cR 1
         have r2 := kcells_of cR 2
         have r3 := kcells_of cR 3
         have rf := kfree_of cR
         simp only [List.getElem?_toArray, List.getElem?_cons_succ, List.getElem?_cons_zero] at r0 r1 r2 r3
         have hlt := lt_of_block cR
         clear cR
         go_wp2
         obtain ⟨z0, z1, z2, z3, hbe⟩ := T4.out.ret 3 d 0 s
         refine bodyPost_ret (v := .agg #[.int .i64 3, .int .i64 d, .string s, .int .i64 0]) (by simp [results, results42, go_sem, z0, z1, z2, z3]) rfl ?_
         exact ⟨3, d, 0, s, rfl, (by rw [hJ]; show (⟨3, (d, s.data.toList), 0⟩ : KN) = _; rw [HTY.out (by first | rfl | trivial)]), HSZ.out, hbe⟩
       ·have e4 : decide (kb = 3) = false := decide_eq_false y3
        have fe4 : (kb == 3) = false := by simpa using e4
        have hJ := HJ4.out.trans (if_neg (fun h => y3 h.2.1))
        clear x3 y3
        have cR := T2.out.r
        have r0 := kcells_of cR 0
        have r1 := kcells_of cR 1
        have r2 := kcells_of cR 2
        have r3 := kcells_of cR 3
        have rf := kfree_of cR
        simp only [List.getElem?_toArray, List.getElem?_cons_succ, List.getElem?_cons_zero] at r0 r1 r2 r3
        have hlt := lt_of_block cR
        clear cR
        go_wp2
        obtain ⟨z0, z1, z2, z3, hbe⟩ := T2.out.ret 0 0 0 ⟨#[]⟩
        refine bodyPost_ret (v := .agg #[.int .i64 0, .int .i64 0, .string ⟨#[]⟩, .int .i64 0]) (by simp [results, results42, go_sem, z0, z1, z2, z3]) rfl ?_
        exact ⟨0, 0, 0, ⟨#[]⟩, rfl, hJ.symm, (by decide), hbe⟩
     ·have e2 : decide (ka = 3) = false := decide_eq_false x3
      have fe2 : (ka == 3) = false := by simpa using e2
      have hJ := HJ3.out.trans ((if_neg (fun h => x3 h.1)).trans (if_neg (fun h => x3 h.1)))
      clear x3
      have cR := T2.out.r
      have r0 := kcells_of cR 0
      have r1 := kcells_of cR 1
      have r2 := kcells_of cR 2
      have r3 := kcells_of cR 3
      have rf := kfree_of cR
      simp only [List.getElem?_toArray, List.getElem?_cons_succ, List.getElem?_cons_zero] at r0 r1 r2 r3
      have hlt := lt_of_block cR
      clear cR
      go_wp2
      obtain ⟨z0, z1, z2, z3, hbe⟩ := T2.out.ret 0 0 0 ⟨#[]⟩
      refine bodyPost_ret (v := .agg #[.int .i64 0, .int .i64 0, .string ⟨#[]⟩, .int .i64 0]) (by simp [results, results42, go_sem, z0, z1, z2, z3]) rfl ?_
      exact ⟨0, 0, 0, ⟨#[]⟩, rfl, hJ.symm, (by decide), hbe⟩
set_option maxRecDepth 1000000 in
set_option maxHeartbeats 6400000 in
theorem RBelow_any {ka da na kb db nb : Int} {sa sb : ByteArray} {w : World} (h : RT B p A cap cs ow w) (G : Good cs) (hN : NamesOk cs) (hsa : sa.size ≤ 1000000) (hsb : sb.size ≤ 1000000) :
  Calls Tryz.prog 44 #[.pointer (some ⟨p, 0, none⟩), .agg #[.int .i64 ka, .int .i64 da, .string sa, .int .i64 na], .agg #[.int .i64 kb, .int .i64 db, .string sb, .int .i64 nb]] w fun e w' => BAns (BelowK cs VT (⟨ka, (da, L sa), na⟩ : KN) (⟨kb, (db, L sb), nb⟩ : KN)) w w' e := by
 have HRA := Lib.hid (rightKB_iff ka da (L sa) na)
 have HRB := Lib.hid (rightKB_iff kb db (L sb) nb)
 have HEQ := Lib.hid (KN_eq ka da na kb db nb sa sb)
 have RA := Lib.hid (fun W => RRight64_any ka da na sa W hsa)
 have RB := Lib.hid (fun W => RRight64_any kb db nb sb W hsb)
 have HL := Lib.hid (fun W (hb : Below w.heap.size w W) => RSub_any (h.link hb) G hN da db sa sb hsa hsb)
 have HP := Lib.hid (show BelowK cs VT (⟨ka, (da, L sa), na⟩ : KN) (⟨kb, (db, L sb), nb⟩ : KN) ↔ RightK VT (⟨ka, (da, L sa), na⟩ : KN) ∧ RightK VT (⟨kb, (db, L sb), nb⟩ : KN) ∧ ((⟨ka, (da, L sa), na⟩ : KN) = (⟨kb, (db, L sb), nb⟩ : KN) ∨ (⟨kb, (db, L sb), nb⟩ : KN) = topK ∨ (ka = 2 ∧ kb = 3) ∨ (ka = 3 ∧ kb = 3 ∧ SubT cs (da, sa.data.toList) (db, sb.data.toList))) from Iff.rfl)
 generalize BelowK cs VT (⟨ka, (da, L sa), na⟩ : KN) (⟨kb, (db, L sb), nb⟩ : KN) = pp at *
 have q1 := fun V : World => eql64 ka da na kb db nb sa sb V
 generalize rightKB ka da (L sa) na = ra at *
 generalize rightKB kb db (L sb) nb = rb at *
 clear h hsa hsb hN G
 have T0 := Lib.hid (KB2.start w ka da na kb db nb sa sb)
 go_enter Tryz.func44, Tryz.ntmps44
 go_wp2_with fail
 refine (RA.out _).mono ?_
 rintro e w1 ⟨rfl, hb1⟩
 have T1 := Lib.hid (T0.out.next hb1)
 clear hb1
 have cB := T1.out.b
 have b0 := kcells_of cB 0
 have b1 := kcells_of cB 1
 have b2 := kcells_of cB 2
 have b3 := kcells_of cB 3
 simp only [List.getElem?_toArray, List.getElem?_cons_succ, List.getElem?_cons_zero] at b0 b1 b2 b3
 clear cB
 go_wp2_with fail
 refine (RB.out _).mono ?_
 rintro e w2 ⟨rfl, hb2⟩
 have T2 := Lib.hid (T1.out.next hb2)
 clear hb2 b0 b1 b2 b3
 cases ra with
 | false =>
  have hno : ¬ pp := fun h => by have := HRA.out.2 (HP.out.1 h).1; cases this
  have HN := Lib.hid hno
  clear hno
  go_wp2
  go_ret
  exact ⟨false, rfl, ⟨fun h => (by cases h), fun h => absurd h HN.out⟩, T2.out.below⟩
 | true =>
  cases rb with
  | false =>
   have hno : ¬ pp := fun h => by have := HRB.out.2 (HP.out.1 h).2.1; cases this
   have HN := Lib.hid hno
   clear hno
   go_wp2
   go_ret
   exact ⟨false, rfl, ⟨fun h => (by cases h), fun h => absurd h HN.out⟩, T2.out.below⟩
  | true =>
   have ya := HRA.out.1 (by first | rfl | trivial)
   have yb := HRB.out.1 (by first | rfl | trivial)
   have YB := Lib.hid yb
   have HQ := Lib.hid (HP.out.trans ⟨fun h => h.2.2, fun h => ⟨ya, yb, h⟩⟩)
   clear ya yb HP
   have cA := T2.out.a
   have a0 := kcells_of cA 0
   have a1 := kcells_of cA 1
   have a2 := kcells_of cA 2
   have a3 := kcells_of cA 3
   simp only [List.getElem?_toArray, List.getElem?_cons_succ, List.getElem?_cons_zero] at a0 a1 a2 a3
   clear cA
   have cB := T2.out.b
   have b0 := kcells_of cB 0
   have b1 := kcells_of cB 1
   have b2 := kcells_of cB 2
   have b3 := kcells_of cB 3
   simp only [List.getElem?_toArray, List.getElem?_cons_succ, List.getElem?_cons_zero] at b0 b1 b2 b3
   clear cB
   by_cases hq : ka = kb ∧ (da = db ∧ sa = sb) ∧ na = nb
   ·rw [decide_eq_true hq] at q1
    have HY := Lib.hid (HQ.out.2 (.inl (HEQ.out.2 hq)))
    clear hq
    go_wp2
    go_ret
    exact ⟨true, rfl, ⟨fun _ => HY.out, fun _ => rfl⟩, T2.out.below⟩
   ·rw [decide_eq_false hq] at q1
    have HQ1 := Lib.hid (fun h => hq (HEQ.out.1 h))
    clear hq
    by_cases ht : kb = 0
    ·have e0 : decide (kb = 0) = true := decide_eq_true ht
     have fe0 : (kb == 0) = true := by simpa using e0
     have HY := Lib.hid (HQ.out.2 (.inr (.inl (right_kind0 YB.out ht))))
     clear ht
     go_wp2
     go_ret
     exact ⟨true, rfl, ⟨fun _ => HY.out, fun _ => rfl⟩, T2.out.below⟩
    ·have e0 : decide (kb = 0) = false := decide_eq_false ht
     have fe0 : (kb == 0) = false := by simpa using e0
     have HQ2 := Lib.hid (fun h : (⟨kb, (db, L sb), nb⟩ : KN) = topK => ht (congrArg KN.kind h))
     have HQ3 := Lib.hid (HQ.out.trans ((or_iff_right HQ1.out).trans (or_iff_right HQ2.out)))
     clear ht HQ HQ1 HQ2
     by_cases x2 : ka = 2
     ·have e1 : decide (ka = 2) = true := decide_eq_true x2
      have fe1 : (ka == 2) = true := by simpa using e1
      by_cases y3 : kb = 3
      ·have e2 : decide (kb = 3) = true := decide_eq_true y3
       have fe2 : (kb == 3) = true := by simpa using e2
       have HY := Lib.hid (HQ3.out.2 (.inl ⟨x2, y3⟩))
       clear x2 y3
       go_wp2
       go_ret
       exact ⟨true, rfl, ⟨fun _ => HY.out, fun _ => rfl⟩, T2.out.below⟩
      ·have e2 : decide (kb = 3) = false := decide_eq_false y3
       have fe2 : (kb == 3) = false := by simpa using e2
       have hno : ¬ pp := fun h => by rcases HQ3.out.1 h with h | h <;> omega
       have HN := Lib.hid hno
       clear x2 y3 hno
       go_wp2
       go_ret
       exact ⟨false, rfl, ⟨fun h => (by cases h), fun h => absurd h HN.out⟩, T2.out.below⟩
     ·have e1 : decide (ka = 2) = false := decide_eq_false x2
      have fe1 : (ka == 2) = false := by simpa using e1
      by_cases x3 : ka = 3
      ·have e3 : decide (ka = 3) = true := decide_eq_true x3
       have fe3 : (ka == 3) = true := by simpa using e3
       by_cases y3 : kb = 3
       ·have e2 : decide (kb = 3) = true := decide_eq_true y3
        have fe2 : (kb == 3) = true := by simpa using e2
        have HS := Lib.hid (HQ3.out.trans ⟨fun h => h.elim (fun h => by omega) (fun h => h.2.2), fun h => .inr ⟨x3, y3, h⟩⟩)
        clear x2 x3 y3
        go_wp2_with fail
        refine (HL.out _ T2.out.below).mono ?_
        rintro e w4 ⟨r, rfl, hr, hb4⟩
        have T4 := Lib.hid (T2.out.next hb4)
        have HR := Lib.hid (hr.trans HS.out.symm)
        clear hr hb4
        go_wp2
        go_ret
        exact ⟨r, rfl, HR.out, T4.out.below⟩
       ·have e2 : decide (kb = 3) = false := decide_eq_false y3
        have fe2 : (kb == 3) = false := by simpa using e2
        have hno : ¬ pp := fun h => by rcases HQ3.out.1 h with h | h <;> omega
        have HN := Lib.hid hno
        clear x2 x3 y3 hno
        go_wp2
        go_ret
        exact ⟨false, rfl, ⟨fun h => (by cases h), fun h => absurd h HN.out⟩, T2.out.below⟩
      ·have e3 : decide (ka = 3) = false := decide_eq_false x3
       have fe3 : (ka == 3) = false := by simpa using e3
       have hno : ¬ pp := fun h => by rcases HQ3.out.1 h with h | h <;> omega
       have HN := Lib.hid hno
       clear x2 x3 hno
       go_wp2
       go_ret
       exact ⟨false, rfl, ⟨fun h => (by cases h), fun h => absurd h HN.out⟩, T2.out.below⟩
end
end Go.Proofs.YtmaknddlgppinaaGreatDoor
