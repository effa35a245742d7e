/-
  CUT and joined from the texts of this seat: Mc
-/
import Derived.Test.YtmaknddlgppinaaGreatDoorZ01
import Derived.Test.YtmaknddlgppinaaGreatDoorZ15
import Derived.Test.YtmaknddlgppinaaGreatDoorZ16
set_option linter.unusedVariables false
set_option linter.unusedSimpArgs false
namespace Go.Proofs.YtmaknddlgppinaaGreatDoor
open Go.RowKit
/-- Two knowns, boxed. -/
structure KB2 (w0 : World) (ka da na kb db nb : Int) (sa sb : ByteArray) (w : World) : Prop where
 a : w.heap[w0.heap.size]? = some (.cells #[.int .i64 ka, .int .i64 da, .string sa, .int .i64 na] 64 (0, 0))
 b : w.heap[w0.heap.size + 1]? = some (.cells #[.int .i64 kb, .int .i64 db, .string sb, .int .i64 nb] 64 (0, 0))
 below : Below w0.heap.size w0 w
 sz : w0.heap.size + 2 ≤ w.heap.size
theorem KB2.start (w : World) (ka da na kb db nb : Int) (sa sb : ByteArray) : KB2 w ka da na kb db nb sa sb ((w.alloc (.cells #[.int .i64 ka, .int .i64 da, .string sa, .int .i64 na] 64)).alloc (.cells #[.int .i64 kb, .int .i64 db, .string sb, .int .i64 nb] 64)) :=
 ⟨hheap_alloc_lt (hheap_new w _), hheap_at _ _ _ (by simp), ((Below.refl _ _).alloc (Nat.le_refl _) _).alloc (by simp) _, by simp⟩
theorem KB2.next {w0 w w' : World} {ka da na kb db nb : Int} {sa sb : ByteArray} (h : KB2 w0 ka da na kb db nb sa sb w) (hb : Below w.heap.size w w') : KB2 w0 ka da na kb db nb sa sb w' := by
 have hz := h.sz
 exact ⟨(hb.block _ (by omega)).trans h.a, (hb.block _ (by omega)).trans h.b, h.below.trans (hb.mono (by omega)), Nat.le_trans hz hb.size⟩
/-- .. and a box for the answer. -/
structure KB3 (w0 : World) (ka da na kb db nb : Int) (sa sb : ByteArray) (w : World) : Prop where
 two : KB2 w0 ka da na kb db nb sa sb w
 r : w.heap[w0.heap.size + 1 + 1]? = some (.cells #[.int .i64 0, .int .i64 0, .string ⟨#[]⟩, .int .i64 0] 64 (0, 0))
theorem KB3.start (w : World) (ka da na kb db nb : Int) (sa sb : ByteArray) : KB3 w ka da na kb db nb sa sb (((w.alloc (.cells #[.int .i64 ka, .int .i64 da, .string sa, .int .i64 na] 64)).alloc (.cells #[.int .i64 kb, .int .i64 db, .string sb, .int .i64 nb] 64)).alloc (.cells #[.int .i64 0, .int .i64 0, .string ⟨#[]⟩, .int .i64 0] 64)) :=
 ⟨(KB2.start w ka da na kb db nb sa sb).next ((Below.refl _ _).alloc (Nat.le_refl _) _), hheap_at _ _ _ (by simp)⟩
theorem KB3.next {w0 w w' : World} {ka da na kb db nb : Int} {sa sb : ByteArray} (h : KB3 w0 ka da na kb db nb sa sb w) (hb : Below w.heap.size w w') : KB3 w0 ka da na kb db nb sa sb w' :=
 ⟨h.two.next hb, (hb.block _ (lt_of_block h.r)).trans h.r⟩
theorem set4 {w : World} {b : Nat} {x0 x1 x2 x3 : Value} {t : TypeId} {m : Nat × Nat} (h : w.heap[b]? = some (.cells #[x0, x1, x2, x3] t m)) (v0 v1 v2 v3 : Value) : ((((w.setCell ⟨b, 0, none⟩ v0).setCell ⟨b, 1, none⟩ v1).setCell ⟨b, 2, none⟩ v2).setCell ⟨b, 3, none⟩ v3).heap[b]? = some (.cells #[v0, v1, v2, v3] t m) := by
 have h1 : (w.setCell ⟨b, 0, none⟩ v0).heap[b]? = some (.cells #[v0, x1, x2, x3] t m) := by rw [heap_set_eq h]; rfl
 have h2 : ((w.setCell ⟨b, 0, none⟩ v0).setCell ⟨b, 1, none⟩ v1).heap[b]? = some (.cells #[v0, v1, x2, x3] t m) := by rw [heap_set_eq h1]; rfl
 have h3 : (((w.setCell ⟨b, 0, none⟩ v0).setCell ⟨b, 1, none⟩ v1).setCell ⟨b, 2, none⟩ v2).heap[b]? = some (.cells #[v0, v1, v2, x3] t m) := by rw [heap_set_eq h2]; rfl
 rw [heap_set_eq h3]
 rfl
/-- The end: the answer's box was set. -/
theorem KB3.ret {w0 w : World} {ka da na kb db nb : Int} {sa sb : ByteArray} (h : KB3 w0 ka da na kb db nb sa sb w) (k d n : Int) (s : ByteArray) :
  let W := (((w.setCell ⟨w0.heap.size + 1 + 1, 0, none⟩ (.int .i64 k)).setCell ⟨w0.heap.size + 1 + 1, 1, none⟩ (.int .i64 d)).setCell ⟨w0.heap.size + 1 + 1, 2, none⟩ (.string s)).setCell ⟨w0.heap.size + 1 + 1, 3, none⟩ (.int .i64 n)
  W.cell? ⟨w0.heap.size + 1 + 1, 0, none⟩ = some (.int .i64 k) ∧ W.cell? ⟨w0.heap.size + 1 + 1, 1, none⟩ = some (.int .i64 d) ∧ W.cell? ⟨w0.heap.size + 1 + 1, 2, none⟩ = some (.string s) ∧ W.cell? ⟨w0.heap.size + 1 + 1, 3, none⟩ = some (.int .i64 n) ∧ Below w0.heap.size w0 W := by
 have := set4 h.r (.int .i64 k) (.int .i64 d) (.string s) (.int .i64 n)
 have le : ∀ i, w0.heap.size ≤ (⟨w0.heap.size + 1 + 1, i, none⟩ : Addr).block := fun i => by show w0.heap.size ≤ w0.heap.size + 1 + 1; omega
 exact ⟨kcells_of this 0, kcells_of this 1, kcells_of this 2, kcells_of this 3, (((h.two.below.setCell (le 0) _).setCell (le 1) _).setCell (le 2) _).setCell (le 3) _⟩
theorem LK_inj {s t : ByteArray} : L s = L t ↔ s = t := ⟨fun h => by cases s; cases t; congr 1; exact Array.toList_inj.1 h, fun h => by rw [h]⟩
theorem KN_eq (ka da na kb db nb : Int) (sa sb : ByteArray) : (⟨ka, (da, L sa), na⟩ : KN) = (⟨kb, (db, L sb), nb⟩ : KN) ↔ (ka = kb ∧ (da = db ∧ sa = sb) ∧ na = nb) := by
 simp only [KN.mk.injEq, Prod.mk.injEq, LK_inj]
/-- What Join answers. -/
def KAns (k : KN) (w w' : World) (e : Ending) : Prop := ∃ (kd d n : Int) (s : ByteArray), e = .returned (.agg #[.int .i64 kd, .int .i64 d, .string s, .int .i64 n]) ∧ (⟨kd, (d, L s), n⟩ : KN) = k ∧ s.size ≤ 1000000 ∧ Below w.heap.size w w'
def BAns (p : Prop) (w w' : World) (e : Ending) : Prop := ∃ r : Bool, e = .returned (.bool r) ∧ (r = true ↔ p) ∧ Below w.heap.size w w'
theorem results41 : Tryz.f41.results = #[ResultVar.cell 6 64] := by kernel_rfl
section
variable {B tb mb cap ow : Nat} {A : Option Addr} {cs : List PC} {cl sl : Nat → Nat} {S : Nat → List Nat}
set_option maxRecDepth 1000000 in
set_option maxHeartbeats 6400000 in
theorem Join_any {ka da na kb db nb : Int} {sa sb : ByteArray} {w : World} (h : HT B tb mb A cap ow cs cl sl S w) (hsa : sa.size ≤ 1000000) (hsb : sb.size ≤ 1000000) :
  Calls Tryz.prog 41 #[.pointer (some ⟨tb, 0, none⟩), .agg #[.int .i64 ka, .int .i64 da, .string sa, .int .i64 na], .agg #[.int .i64 kb, .int .i64 db, .string sb, .int .i64 nb]] w fun e w' => KAns (joinK cs VT (⟨ka, (da, L sa), na⟩ : KN) (⟨kb, (db, L sb), nb⟩ : KN)) w w' e := by
 have HRA := Lib.hid (rightKB_iff ka da (L sa) na)
 have HRB := Lib.hid (rightKB_iff kb db (L sb) nb)
 have HEQ := Lib.hid (KN_eq ka da na kb db nb sa sb)
 have RA := Lib.hid (fun W => Right64_any ka da na sa W)
 have RB := Lib.hid (fun W => Right64_any kb db nb sb W)
 have HL := Lib.hid (fun W hb => Lub_any (da := da) (db := db) (sa := sa) (sb := sb) (w := W) (h.below (Below.mono hb h.hB)) hsa hsb)
 have HJ := Lib.hid (joinK.eq_1 cs VT (⟨ka, (da, L sa), na⟩ : KN) (⟨kb, (db, L sb), nb⟩ : KN))
 generalize joinK cs VT (⟨ka, (da, L sa), na⟩ : KN) (⟨kb, (db, L sb), nb⟩ : KN) = J at *
 have q1 := fun V : World => eql64 ka da na kb db nb sa sb V
 generalize rightKB ka da (L sa) na = ra at *
 generalize rightKB kb db (L sb) nb = rb at *
 have HSA := Lib.hid hsa
 have HSB := Lib.hid hsb
 clear h hsa hsb
 have T0 := Lib.hid (KB3.start w ka da na kb db nb sa sb)
 go_enter Tryz.func41, Tryz.ntmps41
 go_wp2_with fail
 refine (RA.out _).mono ?_
 rintro e w1 ⟨rfl, hb1⟩
 have T1 := Lib.hid (T0.out.next hb1)
 clear hb1
 cases ra with
 | false =>
  have hJ := HJ.out.trans (if_pos (fun h => by have := HRA.out.2 h.1; cases this))
  go_wp2_with fail
  refine (top_any _).mono ?_
  rintro e wt ⟨rfl, hbt⟩
  have T2 := Lib.hid (T1.out.next hbt)
  clear hbt
  try clear a0 a1 a2 a3
  try clear b0 b1 b2 b3
  have cR := T2.out.r
  have r0 := kcells_of cR 0
  have r1 := kcells_of cR 1
  have r2 := kcells_of cR 2
  have r3 := kcells_of cR 3
  have rf := kfree_of cR
  simp only [List.getElem?_toArray, List.getElem?_cons_succ, List.getElem?_cons_zero] at r0 r1 r2 r3
  have hlt := lt_of_block cR
  clear cR
  go_wp2
  obtain ⟨z0, z1, z2, z3, hbe⟩ := T2.out.ret 0 0 0 ⟨#[]⟩
  refine bodyPost_ret (v := .agg #[.int .i64 0, .int .i64 0, .string ⟨#[]⟩, .int .i64 0]) (by simp [results, results41, go_sem, z0, z1, z2, z3]) rfl ?_
  exact ⟨0, 0, 0, ⟨#[]⟩, rfl, hJ.symm, (by decide), hbe⟩
 | true =>
  have cB := T1.out.two.b
  have b0 := kcells_of cB 0
  have b1 := kcells_of cB 1
  have b2 := kcells_of cB 2
  have b3 := kcells_of cB 3
  simp only [List.getElem?_toArray, List.getElem?_cons_succ, List.getElem?_cons_zero] at b0 b1 b2 b3
  clear cB
  go_wp2_with fail
  refine (RB.out _).mono ?_
  rintro e w2 ⟨rfl, hb2⟩
  have T2 := Lib.hid (T1.out.next hb2)
  clear hb2 b0 b1 b2 b3
  cases rb with
  | false =>
   have hJ := HJ.out.trans (if_pos (fun h => by have := HRB.out.2 h.2; cases this))
   go_wp2_with fail
   refine (top_any _).mono ?_
   rintro e wt ⟨rfl, hbt⟩
   have T3 := Lib.hid (T2.out.next hbt)
   clear hbt
   try clear a0 a1 a2 a3
   try clear b0 b1 b2 b3
   have cR := T3.out.r
   have r0 := kcells_of cR 0
   have r1 := kcells_of cR 1
   have r2 := kcells_of cR 2
   have r3 := kcells_of cR 3
   have rf := kfree_of cR
   simp only [List.getElem?_toArray, List.getElem?_cons_succ, List.getElem?_cons_zero] at r0 r1 r2 r3
   have hlt := lt_of_block cR
   clear cR
   go_wp2
   obtain ⟨z0, z1, z2, z3, hbe⟩ := T3.out.ret 0 0 0 ⟨#[]⟩
   refine bodyPost_ret (v := .agg #[.int .i64 0, .int .i64 0, .string ⟨#[]⟩, .int .i64 0]) (by simp [results, results41, go_sem, z0, z1, z2, z3]) rfl ?_
   exact ⟨0, 0, 0, ⟨#[]⟩, rfl, hJ.symm, (by decide), hbe⟩
  | true =>
   have HJ1 := Lib.hid (HJ.out.trans (if_neg (fun h => h ⟨HRA.out.1 (by first | rfl | trivial), HRB.out.1 (by first | rfl | trivial)⟩)))
   clear HJ
   have cA := T2.out.two.a
   have a0 := kcells_of cA 0
   have a1 := kcells_of cA 1
   have a2 := kcells_of cA 2
   have a3 := kcells_of cA 3
   simp only [List.getElem?_toArray, List.getElem?_cons_succ, List.getElem?_cons_zero] at a0 a1 a2 a3
   clear cA
   have cB := T2.out.two.b
   have b0 := kcells_of cB 0
   have b1 := kcells_of cB 1
   have b2 := kcells_of cB 2
   have b3 := kcells_of cB 3
   simp only [List.getElem?_toArray, List.getElem?_cons_succ, List.getElem?_cons_zero] at b0 b1 b2 b3
   clear cB
   by_cases hq : ka = kb ∧ (da = db ∧ sa = sb) ∧ na = nb
   ·rw [decide_eq_true hq] at q1
    have hJ := HJ1.out.trans (if_pos (HEQ.out.2 hq))
    clear hq
    have cR := T2.out.r
    have r0 := kcells_of cR 0
    have r1 := kcells_of cR 1
    have r2 := kcells_of cR 2
    have r3 := kcells_of cR 3
    have rf := kfree_of cR
    simp only [List.getElem?_toArray, List.getElem?_cons_succ, List.getElem?_cons_zero] at r0 r1 r2 r3
    have hlt := lt_of_block cR
    clear cR
    go_wp2
    obtain ⟨z0, z1, z2, z3, hbe⟩ := T2.out.ret ka da na sa
    refine bodyPost_ret (v := .agg #[.int .i64 ka, .int .i64 da, .string sa, .int .i64 na]) (by simp [results, results41, go_sem, z0, z1, z2, z3]) rfl ?_
    exact ⟨ka, da, na, sa, rfl, hJ.symm, HSA.out, hbe⟩
   ·rw [decide_eq_false hq] at q1
    have HJ2 := Lib.hid (HJ1.out.trans (if_neg (fun h => hq (HEQ.out.1 h))))
    clear hq HJ1
    by_cases x2 : ka = 2
    ·have e1 : decide (ka = 2) = true := decide_eq_true x2
     have fe1 : (ka == 2) = true := by simpa using e1
     have e2 : decide (ka = 3) = false := decide_eq_false (by omega)
     have fe2 : (ka == 3) = false := by simpa using e2
     by_cases y3 : kb = 3
     ·have e3 : decide (kb = 3) = true := decide_eq_true y3
      have fe3 : (kb == 3) = true := by simpa using e3
      have hJ := HJ2.out.trans (if_pos ⟨x2, y3⟩)
      clear x2 y3
      have cR := T2.out.r
      have r0 := kcells_of cR 0
      have r1 := kcells_of cR 1
      have r2 := kcells_of cR 2
      have r3 := kcells_of cR 3
      have rf := kfree_of cR
      simp only [List.getElem?_toArray, List.getElem?_cons_succ, List.getElem?_cons_zero] at r0 r1 r2 r3
      have hlt := lt_of_block cR
      clear cR
      go_wp2
      obtain ⟨z0, z1, z2, z3, hbe⟩ := T2.out.ret kb db nb sb
      refine bodyPost_ret (v := .agg #[.int .i64 kb, .int .i64 db, .string sb, .int .i64 nb]) (by simp [results, results41, go_sem, z0, z1, z2, z3]) rfl ?_
      exact ⟨kb, db, nb, sb, rfl, hJ.symm, HSB.out, hbe⟩
     ·have e3 : decide (kb = 3) = false := decide_eq_false y3
      have fe3 : (kb == 3) = false := by simpa using e3
      have hJ := HJ2.out.trans ((if_neg (fun h => y3 h.2)).trans ((if_neg (fun h => absurd h.1 (by show ¬ ka = 3; omega))).trans (if_neg (fun h => y3 h.2.1))))
      clear x2 y3
      go_wp2_with fail
      refine (top_any _).mono ?_
      rintro e wt ⟨rfl, hbt⟩
      have T3 := Lib.hid (T2.out.next hbt)
      clear hbt
      try clear a0 a1 a2 a3
      try clear b0 b1 b2 b3
      have cR := T3.out.r
      have r0 := kcells_of cR 0
      have r1 := kcells_of cR 1
      have r2 := kcells_of cR 2
      have r3 := kcells_of cR 3
      have rf := kfree_of cR
      simp only [List.getElem?_toArray, List.getElem?_cons_succ, List.getElem?_cons_zero] at r0 r1 r2 r3
      have hlt := lt_of_block cR
      clear cR
      go_wp2
      obtain ⟨z0, z1, z2, z3, hbe⟩ := T3.out.ret 0 0 0 ⟨#[]⟩
      refine bodyPost_ret (v := .agg #[.int .i64 0, .int .i64 0, .string ⟨#[]⟩, .int .i64 0]) (by simp [results, results41, go_sem, z0, z1, z2, z3]) rfl ?_
      exact ⟨0, 0, 0, ⟨#[]⟩, rfl, hJ.symm, (by decide), hbe⟩
    ·have e1 : decide (ka = 2) = false := decide_eq_false x2
     have fe1 : (ka == 2) = false := by simpa using e1
     have HJ3 := Lib.hid (HJ2.out.trans (if_neg (fun h => x2 h.1)))
     clear HJ2 x2
     by_cases x3 : ka = 3
     ·have e2 : decide (ka = 3) = true := decide_eq_true x3
      have fe2 : (ka == 3) = true := by simpa using e2
      by_cases y2 : kb = 2
      ·have e3 : decide (kb = 2) = true := decide_eq_true y2
       have fe3 : (kb == 2) = true := by simpa using e3
       have hJ := HJ3.out.trans (if_pos ⟨x3, y2⟩)
       clear x3 y2
       have cR := T2.out.r
       have r0 := kcells_of cR 0
       have r1 := kcells_of cR 1
       have r2 := kcells_of cR 2
       have r3 := kcells_of cR 3
       have rf := kfree_of cR
       simp only [List.getElem?_toArray, List.getElem?_cons_succ, List.getElem?_cons_zero] at r0 r1 r2 r3
       have hlt := lt_of_block cR
       clear cR
       go_wp2
       obtain ⟨z0, z1, z2, z3, hbe⟩ := T2.out.ret ka da na sa
       refine bodyPost_ret (v := .agg #[.int .i64 ka, .int .i64 da, .string sa, .int .i64 na]) (by simp [results, results41, go_sem, z0, z1, z2, z3]) rfl ?_
       exact ⟨ka, da, na, sa, rfl, hJ.symm, HSA.out, hbe⟩
      ·have e3 : decide (kb = 2) = false := decide_eq_false y2
       have fe3 : (kb == 2) = false := by simpa using e3
       have HJ4 := Lib.hid (HJ3.out.trans (if_neg (fun h => y2 h.2)))
       clear HJ3 y2
       by_cases y3 : kb = 3
       ·have e4 : decide (kb = 3) = true := decide_eq_true y3
        have fe4 : (kb == 3) = true := by simpa using e4
        have X3 := Lib.hid x3
        have Y3 := Lib.hid y3
        clear x3 y3
        go_wp2_with fail
        refine (HL.out _ T2.out.two.below).mono ?_
        rintro e w3 ⟨d, s, ok, rfl, hok, hty, hno, hsz, hb3⟩
        have T3 := Lib.hid (T2.out.next hb3)
        have HOK := Lib.hid hok
        have HTY := Lib.hid hty
        have HSZ := Lib.hid hsz
        clear hok hty hno hsz hb3 a0 a1 a2 a3 b0 b1 b2 b3
        have T4 := Lib.hid (T3.out.next ((Below.refl _ _).alloc (Nat.le_refl _) (.cells #[.int .i64 d, .string s] 31)))
        cases ok with
        | false =>
         have hJ := HJ4.out.trans (if_neg (fun h => by have := HOK.out.2 h.2.2; cases this))
         go_wp2_with fail
         refine (top_any _).mono ?_
         rintro e wt ⟨rfl, hbt⟩
         have T5 := Lib.hid (T4.out.next hbt)
         clear hbt
         try clear a0 a1 a2 a3
         try clear b0 b1 b2 b3
         have cR := T5.out.r
         have r0 := kcells_of cR 0
         have r1 := kcells_of cR 1
         have r2 := kcells_of cR 2
         have r3 := kcells_of cR 3
         have rf := kfree_of cR
         simp only [List.getElem?_toArray, List.getElem?_cons_succ, List.getElem?_cons_zero] at r0 r1 r2 r3
         have hlt := lt_of_block cR
         clear cR
         go_wp2
         obtain ⟨z0, z1, z2, z3, hbe⟩ := T5.out.ret 0 0 0 ⟨#[]⟩
         refine bodyPost_ret (v := .agg #[.int .i64 0, .int .i64 0, .string ⟨#[]⟩, .int .i64 0]) (by simp [results, results41, go_sem, z0, z1, z2, z3]) rfl ?_
         exact ⟨0, 0, 0, ⟨#[]⟩, rfl, hJ.symm, (by decide), hbe⟩
        | true =>
         have hJ := HJ4.out.trans (if_pos ⟨X3.out, Y3.out, HOK.out.1 (by first | rfl | trivial)⟩)
         go_wp2_with fail
         refine (reference_any d s _).mono ?_
         rintro e w5 ⟨rfl, hb5⟩
         have T5 := Lib.hid (T4.out.next hb5)
         clear hb5
         have cR := T5.out.r
         have r0 := kcells_of cR 0
         have r1 := kcells_of cR 1
         have r2 := kcells_of cR 2
         have r3 := kcells_of cR 3
         have rf := kfree_of cR
         simp only [List.getElem?_toArray, List.getElem?_cons_succ, List.getElem?_cons_zero] at r0 r1 r2 r3
         have hlt := lt_of_block cR
         clear cR
         go_wp2
         obtain ⟨z0, z1, z2, z3, hbe⟩ := T5.out.ret 3 d 0 s
         refine bodyPost_ret (v := .agg #[.int .i64 3, .int .i64 d, .string s, .int .i64 0]) (by simp [results, results41, go_sem, z0, z1, z2, z3]) rfl ?_
         exact ⟨3, d, 0, s, rfl, (by rw [hJ]; show (⟨3, (d, s.data.toList), 0⟩ : KN) = _; rw [HTY.out (by first | rfl | trivial)]), HSZ.out, hbe⟩
       ·have e4 : decide (kb = 3) = false := decide_eq_false y3
        have fe4 : (kb == 3) = false := by simpa using e4
        have hJ := HJ4.out.trans (if_neg (fun h => y3 h.2.1))
        clear x3 y3
        go_wp2_with fail
        refine (top_any _).mono ?_
        rintro e wt ⟨rfl, hbt⟩
        have T3 := Lib.hid (T2.out.next hbt)
        clear hbt
        try clear a0 a1 a2 a3
        try clear b0 b1 b2 b3
        have cR := T3.out.r
        have r0 := kcells_of cR 0
        have r1 := kcells_of cR 1
        have r2 := kcells_of cR 2
        have r3 := kcells_of cR 3
        have rf := kfree_of cR
        simp only [List.getElem?_toArray, List.getElem?_cons_succ, List.getElem?_cons_zero] at r0 r1 r2 r3
        have hlt := lt_of_block cR
        clear cR
        go_wp2
        obtain ⟨z0, z1, z2, z3, hbe⟩ := T3.out.ret 0 0 0 ⟨#[]⟩
        refine bodyPost_ret (v := .agg #[.int .i64 0, .int .i64 0, .string ⟨#[]⟩, .int .i64 0]) (by simp [results, results41, go_sem, z0, z1, z2, z3]) rfl ?_
        exact ⟨0, 0, 0, ⟨#[]⟩, rfl, hJ.symm, (by decide), hbe⟩
     ·have e2 : decide (ka = 3) = false := decide_eq_false x3
      have fe2 : (ka == 3) = false := by simpa using e2
      have hJ := HJ3.out.trans ((if_neg (fun h => x3 h.1)).trans (if_neg (fun h => x3 h.1)))
      clear x3
      go_wp2_with fail
      refine (top_any _).mono ?_
      rintro e wt ⟨rfl, hbt⟩
      have T3 := Lib.hid (T2.out.next hbt)
      clear hbt
      try clear a0 a1 a2 a3
      try clear b0 b1 b2 b3
      have cR := T3.out.r
      have r0 := kcells_of cR 0
      have r1 := kcells_of cR 1
      have r2 := kcells_of cR 2
      have r3 := kcells_of cR 3
      have rf := kfree_of cR
      simp only [List.getElem?_toArray, List.getElem?_cons_succ, List.getElem?_cons_zero] at r0 r1 r2 r3
      have hlt := lt_of_block cR
      clear cR
      go_wp2
      obtain ⟨z0, z1, z2, z3, hbe⟩ := T3.out.ret 0 0 0 ⟨#[]⟩
      refine bodyPost_ret (v := .agg #[.int .i64 0, .int .i64 0, .string ⟨#[]⟩, .int .i64 0]) (by simp [results, results41, go_sem, z0, z1, z2, z3]) rfl ?_
      exact ⟨0, 0, 0, ⟨#[]⟩, rfl, hJ.symm, (by decide), hbe⟩
set_option maxRecDepth 1000000 in
set_option maxHeartbeats 6400000 in
theorem Below_any {ka da na kb db nb : Int} {sa sb : ByteArray} {w : World} (h : HT B tb mb A cap ow cs cl sl S w) (hsa : sa.size ≤ 1000000) (hsb : sb.size ≤ 1000000) :
  Calls Tryz.prog 43 #[.pointer (some ⟨tb, 0, none⟩), .agg #[.int .i64 ka, .int .i64 da, .string sa, .int .i64 na], .agg #[.int .i64 kb, .int .i64 db, .string sb, .int .i64 nb]] w fun e w' => BAns (BelowK cs VT (⟨ka, (da, L sa), na⟩ : KN) (⟨kb, (db, L sb), nb⟩ : KN)) w w' e := by
 have HRA := Lib.hid (rightKB_iff ka da (L sa) na)
 have HRB := Lib.hid (rightKB_iff kb db (L sb) nb)
 have HEQ := Lib.hid (KN_eq ka da na kb db nb sa sb)
 have HEZ := Lib.hid (show (⟨kb, (db, L sb), nb⟩ : KN) = topK ↔ _ from KN_eq kb db nb 0 0 0 sb ⟨#[]⟩)
 have RA := Lib.hid (fun W => Right64_any ka da na sa W)
 have RB := Lib.hid (fun W => Right64_any kb db nb sb W)
 have HL := Lib.hid (fun W hb => Sub_any (da := da) (db := db) (sa := sa) (sb := sb) (w := W) (h.below (Below.mono hb h.hB)) hsa hsb)
 have HP := Lib.hid (show BelowK cs VT (⟨ka, (da, L sa), na⟩ : KN) (⟨kb, (db, L sb), nb⟩ : KN) ↔ RightK VT (⟨ka, (da, L sa), na⟩ : KN) ∧ RightK VT (⟨kb, (db, L sb), nb⟩ : KN) ∧ ((⟨ka, (da, L sa), na⟩ : KN) = (⟨kb, (db, L sb), nb⟩ : KN) ∨ (⟨kb, (db, L sb), nb⟩ : KN) = topK ∨ (ka = 2 ∧ kb = 3) ∨ (ka = 3 ∧ kb = 3 ∧ SubT cs (da, sa.data.toList) (db, sb.data.toList))) from Iff.rfl)
 generalize BelowK cs VT (⟨ka, (da, L sa), na⟩ : KN) (⟨kb, (db, L sb), nb⟩ : KN) = p at *
 have q1 := fun V : World => eql64 ka da na kb db nb sa sb V
 have q2 := fun V : World => eql64 kb db nb 0 0 0 sb ⟨#[]⟩ V
 generalize rightKB ka da (L sa) na = ra at *
 generalize rightKB kb db (L sb) nb = rb at *
 clear h hsa hsb
 have T0 := Lib.hid (KB2.start w ka da na kb db nb sa sb)
 go_enter Tryz.func43, Tryz.ntmps43
 go_wp2_with fail
 refine (RA.out _).mono ?_
 rintro e w1 ⟨rfl, hb1⟩
 have T1 := Lib.hid (T0.out.next hb1)
 clear hb1
 cases ra with
 | false =>
  have hno : ¬ p := fun h => by have := HRA.out.2 (HP.out.1 h).1; cases this
  have HN := Lib.hid hno
  clear hno
  go_wp2
  go_ret
  exact ⟨false, rfl, ⟨fun h => (by cases h), fun h => absurd h HN.out⟩, T1.out.below⟩
 | true =>
  have cB := T1.out.b
  have b0 := kcells_of cB 0
  have b1 := kcells_of cB 1
  have b2 := kcells_of cB 2
  have b3 := kcells_of cB 3
  simp only [List.getElem?_toArray, List.getElem?_cons_succ, List.getElem?_cons_zero] at b0 b1 b2 b3
  clear cB
  go_wp2_with fail
  refine (RB.out _).mono ?_
  rintro e w2 ⟨rfl, hb2⟩
  have T2 := Lib.hid (T1.out.next hb2)
  clear hb2 b0 b1 b2 b3
  cases rb with
  | false =>
   have hno : ¬ p := fun h => by have := HRB.out.2 (HP.out.1 h).2.1; cases this
   have HN := Lib.hid hno
   clear hno
   go_wp2
   go_ret
   exact ⟨false, rfl, ⟨fun h => (by cases h), fun h => absurd h HN.out⟩, T2.out.below⟩
  | true =>
   have ya := HRA.out.1 (by first | rfl | trivial)
   have yb := HRB.out.1 (by first | rfl | trivial)
   have HQ := Lib.hid (HP.out.trans ⟨fun h => h.2.2, fun h => ⟨ya, yb, h⟩⟩)
   clear ya yb HP
   have cA := T2.out.a
   have a0 := kcells_of cA 0
   have a1 := kcells_of cA 1
   have a2 := kcells_of cA 2
   have a3 := kcells_of cA 3
   simp only [List.getElem?_toArray, List.getElem?_cons_succ, List.getElem?_cons_zero] at a0 a1 a2 a3
   clear cA
   have cB := T2.out.b
   have b0 := kcells_of cB 0
   have b1 := kcells_of cB 1
   have b2 := kcells_of cB 2
   have b3 := kcells_of cB 3
   simp only [List.getElem?_toArray, List.getElem?_cons_succ, List.getElem?_cons_zero] at b0 b1 b2 b3
   clear cB
   have hz := T2.out.sz
   by_cases hq : ka = kb ∧ (da = db ∧ sa = sb) ∧ na = nb
   ·rw [decide_eq_true hq] at q1
    have HY := Lib.hid (HQ.out.2 (.inl (HEQ.out.2 hq)))
    clear hq
    go_upto_region 3 with fail
    have T0 := (Below.refl w2.heap.size w2).drew
    refine wp_region_held_drew (S := fun V => Below w2.heap.size w2 V) (by kernel_rfl) T0 (fun hS0 => ?_)
    refine wpAnyH_take (i := 0) (oi := ({ dst := some 17, op := Op.load 64 (Operand.tmp 4), type := 64, pos := "lattice.go:56", after := #[], guard := none } : Oper)) (v := ?av1) rfl (by kernel_rfl) (by kernel_rfl) (by kernel_rfl) (fun _ _ _ h => h) (Or.inl ⟨by rfl, ?ay1⟩) T0 ?_
    case ay1 => (intro V hSw; have c0 := (hSw.cell (p := ⟨w.heap.size, 0, none⟩) (by show w.heap.size < _; omega)).trans a0; have c1 := (hSw.cell (p := ⟨w.heap.size, 1, none⟩) (by show w.heap.size < _; omega)).trans a1; have c2 := (hSw.cell (p := ⟨w.heap.size, 2, none⟩) (by show w.heap.size < _; omega)).trans a2; have c3 := (hSw.cell (p := ⟨w.heap.size, 3, none⟩) (by show w.heap.size < _; omega)).trans a3; go_simp; try with_reducible rfl)
    try simp only [pu0, puN, pu1, pu2, pu3]
    refine wpAnyH_take (i := 1) (oi := ({ dst := some 18, op := Op.load 64 (Operand.tmp 5), type := 64, pos := "lattice.go:56", after := #[], guard := none } : Oper)) (v := ?av2) rfl (by kernel_rfl) (by kernel_rfl) (by kernel_rfl) (fun _ _ _ h => h) (Or.inl ⟨by rfl, ?ay2⟩) T0 ?_
    case ay2 => (intro V hSw; have c0 := (hSw.cell (p := ⟨w.heap.size + 1, 0, none⟩) (by show w.heap.size + 1 < _; omega)).trans b0; have c1 := (hSw.cell (p := ⟨w.heap.size + 1, 1, none⟩) (by show w.heap.size + 1 < _; omega)).trans b1; have c2 := (hSw.cell (p := ⟨w.heap.size + 1, 2, none⟩) (by show w.heap.size + 1 < _; omega)).trans b2; have c3 := (hSw.cell (p := ⟨w.heap.size + 1, 3, none⟩) (by show w.heap.size + 1 < _; omega)).trans b3; go_simp; try with_reducible rfl)
    try simp only [pu0, puN, pu1, pu2, pu3]
    refine wpAnyH_take (i := 2) (oi := ({ dst := some 19, op := Op.binOp BinOp.eql 64 (Operand.tmp 17) (Operand.tmp 18) 64, type := 4, pos := "lattice.go:56", after := #[{ on := 0, ground := Ground.data }, { on := 1, ground := Ground.data }], guard := none } : Oper)) (v := ?av3) rfl (by kernel_rfl) (by kernel_rfl) (by kernel_rfl) (fun _ _ _ h => h) (Or.inl ⟨by rfl, ?ay3⟩) T0 ?_
    case ay3 => (intro V hSw; go_simp; try with_reducible rfl)
    try simp only [pu0, puN, pu1, pu2, pu3]
    refine wpAnyH_take (i := 3) (oi := ({ dst := some 20, op := Op.move (Operand.tmp 19), type := 4, pos := "lattice.go:56", after := #[{ on := 2, ground := Ground.data }], guard := none } : Oper)) (v := ?av4) rfl (by kernel_rfl) (by kernel_rfl) (by kernel_rfl) (fun _ _ _ h => h) (Or.inl ⟨by rfl, ?ay4⟩) T0 ?_
    case ay4 => (intro V hSw; go_simp; try with_reducible rfl)
    try simp only [pu0, puN, pu1, pu2, pu3]
    refine wpAnyH_take (i := 4) (oi := ({ dst := some 21, op := Op.load 64 (Operand.tmp 5), type := 64, pos := "lattice.go:56", after := #[{ on := 3, ground := Ground.guard }], guard := some (3, false) } : Oper)) (v := undef) rfl (by kernel_rfl) (by kernel_rfl) (by kernel_rfl) (fun _ _ _ h => h) (Or.inr ⟨by rfl, rfl⟩) T0 ?_
    try simp only [pu0, puN, pu1, pu2, pu3]
    refine wpAnyH_take (i := 5) (oi := ({ dst := some 22, op := Op.call { callee := Callee.value (Operand.func 88), args := #[], argTypes := #[] }, type := 64, pos := "lattice.go:56", after := #[{ on := 3, ground := Ground.chain }, { on := 3, ground := Ground.guard }], guard := some (3, false) } : Oper)) (v := undef) rfl (by kernel_rfl) (by kernel_rfl) (by kernel_rfl) (fun _ _ _ h => h) (Or.inr ⟨by rfl, rfl⟩) T0 ?_
    try simp only [pu0, puN, pu1, pu2, pu3]
    refine wpAnyH_take (i := 6) (oi := ({ dst := some 23, op := Op.binOp BinOp.eql 64 (Operand.tmp 21) (Operand.tmp 22) 64, type := 4, pos := "lattice.go:56", after := #[{ on := 4, ground := Ground.data }, { on := 5, ground := Ground.data }, { on := 3, ground := Ground.guard }], guard := some (3, false) } : Oper)) (v := undef) rfl (by kernel_rfl) (by kernel_rfl) (by kernel_rfl) (fun _ _ _ h => h) (Or.inr ⟨by rfl, rfl⟩) T0 ?_
    try simp only [pu0, puN, pu1, pu2, pu3]
    refine wpAnyH_take (i := 7) (oi := ({ dst := some 24, op := Op.pick (Operand.tmp 20) (Operand.const (Value.bool true)) (Operand.tmp 23), type := 4, pos := "lattice.go:56", after := #[{ on := 3, ground := Ground.data }, { on := 6, ground := Ground.data }], guard := none } : Oper)) (v := ?av5) rfl (by kernel_rfl) (by kernel_rfl) (by kernel_rfl) (fun _ _ _ h => h) (Or.inl ⟨by rfl, ?ay5⟩) T0 ?_
    case ay5 => (intro V hSw; go_simp; try with_reducible rfl)
    try simp only [pu0, puN, pu1, pu2, pu3]
    refine wpAnyH_take (i := 8) (oi := ({ dst := some 16, op := Op.assign (Operand.tmp 24), type := 4, pos := "lattice.go:56", after := #[{ on := 7, ground := Ground.data }, { on := 5, ground := Ground.chain }], guard := none } : Oper)) (v := ?av6) rfl (by kernel_rfl) (by kernel_rfl) (by kernel_rfl) (fun _ _ _ h => h) (Or.inl ⟨by rfl, ?ay6⟩) T0 ?_
    case ay6 => (intro V hSw; go_simp; try with_reducible rfl)
    try simp only [pu0, puN, pu1, pu2, pu3]
    refine wpAnyH_done (by kernel_rfl) ?_ _
    have T3 := Lib.hid (T2.out.next T0)
    go_wp2
    go_ret
    exact ⟨true, rfl, ⟨fun _ => HY.out, fun _ => rfl⟩, T3.out.below⟩
   ·rw [decide_eq_false hq] at q1
    have HQ1 := Lib.hid (fun h => hq (HEQ.out.1 h))
    clear hq
    by_cases ht : kb = 0 ∧ (db = 0 ∧ sb = ⟨#[]⟩) ∧ nb = 0
    ·rw [decide_eq_true ht] at q2
     have HY := Lib.hid (HQ.out.2 (.inr (.inl (HEZ.out.2 ht))))
     clear ht
     go_upto_region 3 with fail
     have T0 := (Below.refl w2.heap.size w2).drew
     refine wp_region_held_drew (S := fun V => Below w2.heap.size w2 V) (by kernel_rfl) T0 (fun hS0 => ?_)
     refine wpAnyH_take (i := 0) (oi := ({ dst := some 17, op := Op.load 64 (Operand.tmp 4), type := 64, pos := "lattice.go:56", after := #[], guard := none } : Oper)) (v := ?av7) rfl (by kernel_rfl) (by kernel_rfl) (by kernel_rfl) (fun _ _ _ h => h) (Or.inl ⟨by rfl, ?ay7⟩) T0 ?_
     case ay7 => (intro V hSw; have c0 := (hSw.cell (p := ⟨w.heap.size, 0, none⟩) (by show w.heap.size < _; omega)).trans a0; have c1 := (hSw.cell (p := ⟨w.heap.size, 1, none⟩) (by show w.heap.size < _; omega)).trans a1; have c2 := (hSw.cell (p := ⟨w.heap.size, 2, none⟩) (by show w.heap.size < _; omega)).trans a2; have c3 := (hSw.cell (p := ⟨w.heap.size, 3, none⟩) (by show w.heap.size < _; omega)).trans a3; go_simp; try with_reducible rfl)
     try simp only [pu0, puN, pu1, pu2, pu3]
     refine wpAnyH_take (i := 1) (oi := ({ dst := some 18, op := Op.load 64 (Operand.tmp 5), type := 64, pos := "lattice.go:56", after := #[], guard := none } : Oper)) (v := ?av8) rfl (by kernel_rfl) (by kernel_rfl) (by kernel_rfl) (fun _ _ _ h => h) (Or.inl ⟨by rfl, ?ay8⟩) T0 ?_
     case ay8 => (intro V hSw; have c0 := (hSw.cell (p := ⟨w.heap.size + 1, 0, none⟩) (by show w.heap.size + 1 < _; omega)).trans b0; have c1 := (hSw.cell (p := ⟨w.heap.size + 1, 1, none⟩) (by show w.heap.size + 1 < _; omega)).trans b1; have c2 := (hSw.cell (p := ⟨w.heap.size + 1, 2, none⟩) (by show w.heap.size + 1 < _; omega)).trans b2; have c3 := (hSw.cell (p := ⟨w.heap.size + 1, 3, none⟩) (by show w.heap.size + 1 < _; omega)).trans b3; go_simp; try with_reducible rfl)
     try simp only [pu0, puN, pu1, pu2, pu3]
     refine wpAnyH_take (i := 2) (oi := ({ dst := some 19, op := Op.binOp BinOp.eql 64 (Operand.tmp 17) (Operand.tmp 18) 64, type := 4, pos := "lattice.go:56", after := #[{ on := 0, ground := Ground.data }, { on := 1, ground := Ground.data }], guard := none } : Oper)) (v := ?av9) rfl (by kernel_rfl) (by kernel_rfl) (by kernel_rfl) (fun _ _ _ h => h) (Or.inl ⟨by rfl, ?ay9⟩) T0 ?_
     case ay9 => (intro V hSw; go_simp; try with_reducible rfl)
     try simp only [pu0, puN, pu1, pu2, pu3]
     refine wpAnyH_take (i := 3) (oi := ({ dst := some 20, op := Op.move (Operand.tmp 19), type := 4, pos := "lattice.go:56", after := #[{ on := 2, ground := Ground.data }], guard := none } : Oper)) (v := ?av10) rfl (by kernel_rfl) (by kernel_rfl) (by kernel_rfl) (fun _ _ _ h => h) (Or.inl ⟨by rfl, ?ay10⟩) T0 ?_
     case ay10 => (intro V hSw; go_simp; try with_reducible rfl)
     try simp only [pu0, puN, pu1, pu2, pu3]
     refine wpAnyH_take (i := 4) (oi := ({ dst := some 21, op := Op.load 64 (Operand.tmp 5), type := 64, pos := "lattice.go:56", after := #[{ on := 3, ground := Ground.guard }], guard := some (3, false) } : Oper)) (v := ?av11) rfl (by kernel_rfl) (by kernel_rfl) (by kernel_rfl) (fun _ _ _ h => h) (Or.inl ⟨by rfl, ?ay11⟩) T0 ?_
     case ay11 => (intro V hSw; have c0 := (hSw.cell (p := ⟨w.heap.size + 1, 0, none⟩) (by show w.heap.size + 1 < _; omega)).trans b0; have c1 := (hSw.cell (p := ⟨w.heap.size + 1, 1, none⟩) (by show w.heap.size + 1 < _; omega)).trans b1; have c2 := (hSw.cell (p := ⟨w.heap.size + 1, 2, none⟩) (by show w.heap.size + 1 < _; omega)).trans b2; have c3 := (hSw.cell (p := ⟨w.heap.size + 1, 3, none⟩) (by show w.heap.size + 1 < _; omega)).trans b3; go_simp; try with_reducible rfl)
     try simp only [pu0, puN, pu1, pu2, pu3]
     refine wpAnyH_ready (rs := [5]) (by kernel_rfl) (by simp) ?_
     refine (AllReadyH.cons (o := _) rfl (fun K hK => ?_) AllReadyH.nil)
     go_simp
     refine (top_any _).mono ?_
     rintro e P12 ⟨rfl, hb12⟩
     have T12 := T0.trans (hb12.mono T0.size)
     try go_wp2_with fail
     refine hK.out _ _ T12 (fun hS12 => ?_)
     clear hK K
     try simp only [pu0, puN, pu1, pu2, pu3]
     refine wpAnyH_take (i := 6) (oi := ({ dst := some 23, op := Op.binOp BinOp.eql 64 (Operand.tmp 21) (Operand.tmp 22) 64, type := 4, pos := "lattice.go:56", after := #[{ on := 4, ground := Ground.data }, { on := 5, ground := Ground.data }, { on := 3, ground := Ground.guard }], guard := some (3, false) } : Oper)) (v := ?av13) rfl (by kernel_rfl) (by kernel_rfl) (by kernel_rfl) (fun _ _ _ h => h) (Or.inl ⟨by rfl, ?ay13⟩) T12 ?_
     case ay13 => (intro V hSw; go_simp; try with_reducible rfl)
     try simp only [pu0, puN, pu1, pu2, pu3]
     refine wpAnyH_take (i := 7) (oi := ({ dst := some 24, op := Op.pick (Operand.tmp 20) (Operand.const (Value.bool true)) (Operand.tmp 23), type := 4, pos := "lattice.go:56", after := #[{ on := 3, ground := Ground.data }, { on := 6, ground := Ground.data }], guard := none } : Oper)) (v := ?av14) rfl (by kernel_rfl) (by kernel_rfl) (by kernel_rfl) (fun _ _ _ h => h) (Or.inl ⟨by rfl, ?ay14⟩) T12 ?_
     case ay14 => (intro V hSw; go_simp; try with_reducible rfl)
     try simp only [pu0, puN, pu1, pu2, pu3]
     refine wpAnyH_take (i := 8) (oi := ({ dst := some 16, op := Op.assign (Operand.tmp 24), type := 4, pos := "lattice.go:56", after := #[{ on := 7, ground := Ground.data }, { on := 5, ground := Ground.chain }], guard := none } : Oper)) (v := ?av15) rfl (by kernel_rfl) (by kernel_rfl) (by kernel_rfl) (fun _ _ _ h => h) (Or.inl ⟨by rfl, ?ay15⟩) T12 ?_
     case ay15 => (intro V hSw; go_simp; try with_reducible rfl)
     try simp only [pu0, puN, pu1, pu2, pu3]
     refine wpAnyH_done (by kernel_rfl) ?_ _
     have T3 := Lib.hid (T2.out.next T12)
     go_wp2
     go_ret
     exact ⟨true, rfl, ⟨fun _ => HY.out, fun _ => rfl⟩, T3.out.below⟩
    ·rw [decide_eq_false ht] at q2
     have HQ2 := Lib.hid (fun h => ht (HEZ.out.1 h))
     have HQ3 := Lib.hid (HQ.out.trans ((or_iff_right HQ1.out).trans (or_iff_right HQ2.out)))
     clear ht HQ HQ1 HQ2
     go_upto_region 3 with fail
     have T0 := (Below.refl w2.heap.size w2).drew
     refine wp_region_held_drew (S := fun V => Below w2.heap.size w2 V) (by kernel_rfl) T0 (fun hS0 => ?_)
     refine wpAnyH_take (i := 0) (oi := ({ dst := some 17, op := Op.load 64 (Operand.tmp 4), type := 64, pos := "lattice.go:56", after := #[], guard := none } : Oper)) (v := ?av16) rfl (by kernel_rfl) (by kernel_rfl) (by kernel_rfl) (fun _ _ _ h => h) (Or.inl ⟨by rfl, ?ay16⟩) T0 ?_
     case ay16 => (intro V hSw; have c0 := (hSw.cell (p := ⟨w.heap.size, 0, none⟩) (by show w.heap.size < _; omega)).trans a0; have c1 := (hSw.cell (p := ⟨w.heap.size, 1, none⟩) (by show w.heap.size < _; omega)).trans a1; have c2 := (hSw.cell (p := ⟨w.heap.size, 2, none⟩) (by show w.heap.size < _; omega)).trans a2; have c3 := (hSw.cell (p := ⟨w.heap.size, 3, none⟩) (by show w.heap.size < _; omega)).trans a3; go_simp; try with_reducible rfl)
     try simp only [pu0, puN, pu1, pu2, pu3]
     refine wpAnyH_take (i := 1) (oi := ({ dst := some 18, op := Op.load 64 (Operand.tmp 5), type := 64, pos := "lattice.go:56", after := #[], guard := none } : Oper)) (v := ?av17) rfl (by kernel_rfl) (by kernel_rfl) (by kernel_rfl) (fun _ _ _ h => h) (Or.inl ⟨by rfl, ?ay17⟩) T0 ?_
     case ay17 => (intro V hSw; have c0 := (hSw.cell (p := ⟨w.heap.size + 1, 0, none⟩) (by show w.heap.size + 1 < _; omega)).trans b0; have c1 := (hSw.cell (p := ⟨w.heap.size + 1, 1, none⟩) (by show w.heap.size + 1 < _; omega)).trans b1; have c2 := (hSw.cell (p := ⟨w.heap.size + 1, 2, none⟩) (by show w.heap.size + 1 < _; omega)).trans b2; have c3 := (hSw.cell (p := ⟨w.heap.size + 1, 3, none⟩) (by show w.heap.size + 1 < _; omega)).trans b3; go_simp; try with_reducible rfl)
     try simp only [pu0, puN, pu1, pu2, pu3]
     refine wpAnyH_take (i := 2) (oi := ({ dst := some 19, op := Op.binOp BinOp.eql 64 (Operand.tmp 17) (Operand.tmp 18) 64, type := 4, pos := "lattice.go:56", after := #[{ on := 0, ground := Ground.data }, { on := 1, ground := Ground.data }], guard := none } : Oper)) (v := ?av18) rfl (by kernel_rfl) (by kernel_rfl) (by kernel_rfl) (fun _ _ _ h => h) (Or.inl ⟨by rfl, ?ay18⟩) T0 ?_
     case ay18 => (intro V hSw; go_simp; try with_reducible rfl)
     try simp only [pu0, puN, pu1, pu2, pu3]
     refine wpAnyH_take (i := 3) (oi := ({ dst := some 20, op := Op.move (Operand.tmp 19), type := 4, pos := "lattice.go:56", after := #[{ on := 2, ground := Ground.data }], guard := none } : Oper)) (v := ?av19) rfl (by kernel_rfl) (by kernel_rfl) (by kernel_rfl) (fun _ _ _ h => h) (Or.inl ⟨by rfl, ?ay19⟩) T0 ?_
     case ay19 => (intro V hSw; go_simp; try with_reducible rfl)
     try simp only [pu0, puN, pu1, pu2, pu3]
     refine wpAnyH_take (i := 4) (oi := ({ dst := some 21, op := Op.load 64 (Operand.tmp 5), type := 64, pos := "lattice.go:56", after := #[{ on := 3, ground := Ground.guard }], guard := some (3, false) } : Oper)) (v := ?av20) rfl (by kernel_rfl) (by kernel_rfl) (by kernel_rfl) (fun _ _ _ h => h) (Or.inl ⟨by rfl, ?ay20⟩) T0 ?_
     case ay20 => (intro V hSw; have c0 := (hSw.cell (p := ⟨w.heap.size + 1, 0, none⟩) (by show w.heap.size + 1 < _; omega)).trans b0; have c1 := (hSw.cell (p := ⟨w.heap.size + 1, 1, none⟩) (by show w.heap.size + 1 < _; omega)).trans b1; have c2 := (hSw.cell (p := ⟨w.heap.size + 1, 2, none⟩) (by show w.heap.size + 1 < _; omega)).trans b2; have c3 := (hSw.cell (p := ⟨w.heap.size + 1, 3, none⟩) (by show w.heap.size + 1 < _; omega)).trans b3; go_simp; try with_reducible rfl)
     try simp only [pu0, puN, pu1, pu2, pu3]
     refine wpAnyH_ready (rs := [5]) (by kernel_rfl) (by simp) ?_
     refine (AllReadyH.cons (o := _) rfl (fun K hK => ?_) AllReadyH.nil)
     go_simp
     refine (top_any _).mono ?_
     rintro e P21 ⟨rfl, hb21⟩
     have T21 := T0.trans (hb21.mono T0.size)
     try go_wp2_with fail
     refine hK.out _ _ T21 (fun hS21 => ?_)
     clear hK K
     try simp only [pu0, puN, pu1, pu2, pu3]
     refine wpAnyH_take (i := 6) (oi := ({ dst := some 23, op := Op.binOp BinOp.eql 64 (Operand.tmp 21) (Operand.tmp 22) 64, type := 4, pos := "lattice.go:56", after := #[{ on := 4, ground := Ground.data }, { on := 5, ground := Ground.data }, { on := 3, ground := Ground.guard }], guard := some (3, false) } : Oper)) (v := ?av22) rfl (by kernel_rfl) (by kernel_rfl) (by kernel_rfl) (fun _ _ _ h => h) (Or.inl ⟨by rfl, ?ay22⟩) T21 ?_
     case ay22 => (intro V hSw; go_simp; try with_reducible rfl)
     try simp only [pu0, puN, pu1, pu2, pu3]
     refine wpAnyH_take (i := 7) (oi := ({ dst := some 24, op := Op.pick (Operand.tmp 20) (Operand.const (Value.bool true)) (Operand.tmp 23), type := 4, pos := "lattice.go:56", after := #[{ on := 3, ground := Ground.data }, { on := 6, ground := Ground.data }], guard := none } : Oper)) (v := ?av23) rfl (by kernel_rfl) (by kernel_rfl) (by kernel_rfl) (fun _ _ _ h => h) (Or.inl ⟨by rfl, ?ay23⟩) T21 ?_
     case ay23 => (intro V hSw; go_simp; try with_reducible rfl)
     try simp only [pu0, puN, pu1, pu2, pu3]
     refine wpAnyH_take (i := 8) (oi := ({ dst := some 16, op := Op.assign (Operand.tmp 24), type := 4, pos := "lattice.go:56", after := #[{ on := 7, ground := Ground.data }, { on := 5, ground := Ground.chain }], guard := none } : Oper)) (v := ?av24) rfl (by kernel_rfl) (by kernel_rfl) (by kernel_rfl) (fun _ _ _ h => h) (Or.inl ⟨by rfl, ?ay24⟩) T21 ?_
     case ay24 => (intro V hSw; go_simp; try with_reducible rfl)
     try simp only [pu0, puN, pu1, pu2, pu3]
     refine wpAnyH_done (by kernel_rfl) ?_ _
     have T3 := Lib.hid (T2.out.next T21)
     clear a0 a1 a2 a3 b0 b1 b2 b3
     have cA := T3.out.a
     have a0 := kcells_of cA 0
     have a1 := kcells_of cA 1
     have a2 := kcells_of cA 2
     have a3 := kcells_of cA 3
     simp only [List.getElem?_toArray, List.getElem?_cons_succ, List.getElem?_cons_zero] at a0 a1 a2 a3
     clear cA
     have cB := T3.out.b
     have b0 := kcells_of cB 0
     have b1 := kcells_of cB 1
     have b2 := kcells_of cB 2
     have b3 := kcells_of cB 3
     simp only [List.getElem?_toArray, List.getElem?_cons_succ, List.getElem?_cons_zero] at b0 b1 b2 b3
     clear cB
     by_cases x2 : ka = 2
     ·have e1 : decide (ka = 2) = true := decide_eq_true x2
      have fe1 : (ka == 2) = true := by simpa using e1
      by_cases y3 : kb = 3
      ·have e2 : decide (kb = 3) = true := decide_eq_true y3
       have fe2 : (kb == 3) = true := by simpa using e2
       have HY := Lib.hid (HQ3.out.2 (.inl ⟨x2, y3⟩))
       clear x2 y3
       go_wp2
       go_ret
       exact ⟨true, rfl, ⟨fun _ => HY.out, fun _ => rfl⟩, T3.out.below⟩
      ·have e2 : decide (kb = 3) = false := decide_eq_false y3
       have fe2 : (kb == 3) = false := by simpa using e2
       have hno : ¬ p := fun h => by rcases HQ3.out.1 h with h | h <;> omega
       have HN := Lib.hid hno
       clear x2 y3 hno
       go_wp2
       go_ret
       exact ⟨false, rfl, ⟨fun h => (by cases h), fun h => absurd h HN.out⟩, T3.out.below⟩
     ·have e1 : decide (ka = 2) = false := decide_eq_false x2
      have fe1 : (ka == 2) = false := by simpa using e1
      by_cases x3 : ka = 3
      ·have e3 : decide (ka = 3) = true := decide_eq_true x3
       have fe3 : (ka == 3) = true := by simpa using e3
       by_cases y3 : kb = 3
       ·have e2 : decide (kb = 3) = true := decide_eq_true y3
        have fe2 : (kb == 3) = true := by simpa using e2
        have HS := Lib.hid (HQ3.out.trans ⟨fun h => h.elim (fun h => by omega) (fun h => h.2.2), fun h => .inr ⟨x3, y3, h⟩⟩)
        clear x2 x3 y3
        go_wp2_with fail
        refine (HL.out _ T3.out.below).mono ?_
        rintro e w4 ⟨r, rfl, hr, hb4⟩
        have T4 := Lib.hid (T3.out.next hb4)
        have HR := Lib.hid (hr.trans HS.out.symm)
        clear hr hb4
        go_wp2
        go_ret
        exact ⟨r, rfl, HR.out, T4.out.below⟩
       ·have e2 : decide (kb = 3) = false := decide_eq_false y3
        have fe2 : (kb == 3) = false := by simpa using e2
        have hno : ¬ p := fun h => by rcases HQ3.out.1 h with h | h <;> omega
        have HN := Lib.hid hno
        clear x2 x3 y3 hno
        go_wp2
        go_ret
        exact ⟨false, rfl, ⟨fun h => (by cases h), fun h => absurd h HN.out⟩, T3.out.below⟩
      ·have e3 : decide (ka = 3) = false := decide_eq_false x3
       have fe3 : (ka == 3) = false := by simpa using e3
       have hno : ¬ p := fun h => by rcases HQ3.out.1 h with h | h <;> omega
       have HN := Lib.hid hno
       clear x2 x3 hno
       go_wp2
       go_ret
       exact ⟨false, rfl, ⟨fun h => (by cases h), fun h => absurd h HN.out⟩, T3.out.below⟩
end
end Go.Proofs.YtmaknddlgppinaaGreatDoor
