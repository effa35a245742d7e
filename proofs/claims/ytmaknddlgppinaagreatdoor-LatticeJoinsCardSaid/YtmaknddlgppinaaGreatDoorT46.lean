/-
  CUT and joined from the texts of this seat: Nc Mj
-/
import Derived.Test.YtmaknddlgppinaaGreatDoorT01
import Derived.Test.YtmaknddlgppinaaGreatDoorT45
import Derived.Test.YtmaknddlgppinaaGreatDoorT40
import Derived.Deep.RegionHeld3
set_option linter.unusedVariables false
set_option linter.unusedSimpArgs false
namespace Go.Proofs.YtmaknddlgppinaaGreatDoor
open Go.RowKit
theorem results35 : Tryz.f35.results = #[ResultVar.cell 2 64] := by kernel_rfl
theorem results36 : Tryz.f36.results = #[ResultVar.cell 2 64] := by kernel_rfl
theorem ofK_int {d : Int} {s : ByteArray} (h : d = 0 ∧ s = ⟨#[]⟩) : (⟨1, (0, L ⟨#[]⟩), 0⟩ : KN) = ofK VT (d, L s) := by
 obtain ⟨rfl, rfl⟩ := h
 exact (if_pos rfl).symm
theorem not_int {d : Int} {s : ByteArray} (h : ¬ (d = 0 ∧ s = ⟨#[]⟩)) : ((d, L s) : TY) ≠ intT := fun e => h ((Prod.mk.injEq _ _ _ _ ▸ e : d = 0 ∧ L s = []).imp_right (str_nilK s).2)
theorem ofK_ref {d : Int} {s : ByteArray} (h : ¬ (d = 0 ∧ s = ⟨#[]⟩)) (hr : refT d (L s) = true) : (⟨3, (d, L s), 0⟩ : KN) = ofK VT (d, L s) :=
 ((if_neg (not_int h)).trans (if_pos ((refT_iff d (L s)).1 hr).1)).symm
theorem ofK_no {d : Int} {s : ByteArray} (h : ¬ (d = 0 ∧ s = ⟨#[]⟩)) (hr : refT d (L s) = false) : (⟨0, (0, L ⟨#[]⟩), 0⟩ : KN) = ofK VT (d, L s) :=
 ((if_neg (not_int h)).trans (if_neg (fun hv => by
  have := (refT_iff d (L s)).2 ⟨hv, fun e => h (e.imp_right (str_nilK s).2)⟩
  rw [hr] at this
  cases this))).symm
/-- A type in its box, and a box for the answer. -/
structure TB (w0 : World) (d : Int) (s : ByteArray) (w : World) : Prop where
 a : w.heap[w0.heap.size]? = some (.cells #[.int .i64 d, .string s] 31 (0, 0))
 r : w.heap[w0.heap.size + 1]? = some (.cells #[.int .i64 0, .int .i64 0, .string ⟨#[]⟩, .int .i64 0] 64 (0, 0))
 below : Below w0.heap.size w0 w
theorem TB.start (w : World) (d : Int) (s : ByteArray) : TB w d s ((w.alloc (.cells #[.int .i64 d, .string s] 31)).alloc (.cells #[.int .i64 0, .int .i64 0, .string ⟨#[]⟩, .int .i64 0] 64)) :=
 ⟨hheap_alloc_lt (hheap_new w _), hheap_at _ _ _ (by simp), ((Below.refl _ _).alloc (Nat.le_refl _) _).alloc (by simp) _⟩
theorem TB.next {w0 w w' : World} {d : Int} {s : ByteArray} (h : TB w0 d s w) (hb : Below w.heap.size w w') : TB w0 d s w' :=
 ⟨(hb.block _ (lt_of_block h.a)).trans h.a, (hb.block _ (lt_of_block h.r)).trans h.r, Below.hlink h.below hb⟩
theorem TB.ret {w0 w : World} {d0 : Int} {s0 : ByteArray} (h : TB w0 d0 s0 w) (k d n : Int) (s : ByteArray) :
  let W := (((w.setCell ⟨w0.heap.size + 1, 0, none⟩ (.int .i64 k)).setCell ⟨w0.heap.size + 1, 1, none⟩ (.int .i64 d)).setCell ⟨w0.heap.size + 1, 2, none⟩ (.string s)).setCell ⟨w0.heap.size + 1, 3, none⟩ (.int .i64 n)
  W.cell? ⟨w0.heap.size + 1, 0, none⟩ = some (.int .i64 k) ∧ W.cell? ⟨w0.heap.size + 1, 1, none⟩ = some (.int .i64 d) ∧ W.cell? ⟨w0.heap.size + 1, 2, none⟩ = some (.string s) ∧ W.cell? ⟨w0.heap.size + 1, 3, none⟩ = some (.int .i64 n) ∧ Below w0.heap.size w0 W := by
 have := set4 h.r (.int .i64 k) (.int .i64 d) (.string s) (.int .i64 n)
 have le : ∀ i, w0.heap.size ≤ (⟨w0.heap.size + 1, i, none⟩ : Addr).block := fun i => by show w0.heap.size ≤ w0.heap.size + 1; omega
 exact ⟨kcells_of this 0, kcells_of this 1, kcells_of this 2, kcells_of this 3, (((h.below.setCell (le 0) _).setCell (le 1) _).setCell (le 2) _).setCell (le 3) _⟩
set_option maxRecDepth 1000000 in
set_option maxHeartbeats 6400000 in
theorem Of_any (d : Int) (s : ByteArray) (w : World) (hs : s.size ≤ 1000000) :
  Calls Tryz.prog 35 #[.agg #[.int .i64 d, .string s]] w fun e w' => KAns (ofK VT (d, L s)) w w' e := by
 have HI := Lib.hid (ofK_int (d := d) (s := s))
 have HR := Lib.hid (ofK_ref (d := d) (s := s))
 have HX := Lib.hid (ofK_no (d := d) (s := s))
 have N := Lib.hid (fun W => IsRef_any d s W)
 have q1 := fun V : World => eql31 d 0 s ⟨#[]⟩ V
 generalize refT d (L s) = q at *
 generalize hK : ofK VT (d, L s) = K at *
 clear hK
 have T0 := Lib.hid (TB.start w d s)
 go_enter Tryz.func35, Tryz.ntmps35
 by_cases hi : d = 0 ∧ s = ⟨#[]⟩
 ·rw [decide_eq_true hi] at q1
  have HH := Lib.hid (HI.out hi)
  clear hi
  go_upto_region 2 with fail
  have cR := T0.out.r
  have r0 := kcells_of cR 0
  have r1 := kcells_of cR 1
  have r2 := kcells_of cR 2
  have r3 := kcells_of cR 3
  have rf := kfree_of cR
  simp only [List.getElem?_toArray, List.getElem?_cons_succ, List.getElem?_cons_zero] at r0 r1 r2 r3
  have hlt := lt_of_block cR
  clear cR
  go_wp2
  obtain ⟨z0, z1, z2, z3, hbe⟩ := T0.out.ret 1 0 0 ⟨#[]⟩
  refine bodyPost_ret (v := .agg #[.int .i64 1, .int .i64 0, .string ⟨#[]⟩, .int .i64 0]) (by simp [results, results35, go_sem, z0, z1, z2, z3]) rfl ?_
  exact ⟨1, 0, 0, ⟨#[]⟩, rfl, HH.out, (by decide), ((Below.refl _ _).alloc (Nat.le_refl _) _).alloc (by simp) _⟩
 ·rw [decide_eq_false hi] at q1
  have HRR := Lib.hid (HR.out hi)
  have HXX := Lib.hid (HX.out hi)
  clear hi
  go_wp2_with fail
  refine (N.out _).mono ?_
  rintro e w1 ⟨rfl, hb⟩
  have T1 := Lib.hid (T0.out.next hb)
  clear hb
  cases q with
  | true =>
   have HH := Lib.hid (HRR.out rfl)
   have cA := T1.out.a
   have a0 := kcells_of cA 0
   have a1 := kcells_of cA 1
   simp only [List.getElem?_toArray, List.getElem?_cons_succ, List.getElem?_cons_zero] at a0 a1
   have hla := lt_of_block cA
   clear cA
   go_wp2_with fail
   refine (reference_any d s _).mono ?_
   rintro e w2 ⟨rfl, hb⟩
   have T2 := Lib.hid (T1.out.next hb)
   clear hb a0 a1 hla
   have cR := T2.out.r
   have r0 := kcells_of cR 0
   have r1 := kcells_of cR 1
   have r2 := kcells_of cR 2
   have r3 := kcells_of cR 3
   have rf := kfree_of cR
   simp only [List.getElem?_toArray, List.getElem?_cons_succ, List.getElem?_cons_zero] at r0 r1 r2 r3
   have hlt := lt_of_block cR
   clear cR
   go_wp2
   obtain ⟨z0, z1, z2, z3, hbe⟩ := T2.out.ret 3 d 0 s
   refine bodyPost_ret (v := .agg #[.int .i64 3, .int .i64 d, .string s, .int .i64 0]) (by simp [results, results35, go_sem, z0, z1, z2, z3]) rfl ?_
   exact ⟨3, d, 0, s, rfl, HH.out, hs, hbe⟩
  | false =>
   have HH := Lib.hid (HXX.out rfl)
   go_wp2_with fail
   refine (top_any _).mono ?_
   rintro e w2 ⟨rfl, hb⟩
   have T2 := Lib.hid (T1.out.next hb)
   clear hb
   have cR := T2.out.r
   have r0 := kcells_of cR 0
   have r1 := kcells_of cR 1
   have r2 := kcells_of cR 2
   have r3 := kcells_of cR 3
   have rf := kfree_of cR
   simp only [List.getElem?_toArray, List.getElem?_cons_succ, List.getElem?_cons_zero] at r0 r1 r2 r3
   have hlt := lt_of_block cR
   clear cR
   go_wp2
   obtain ⟨z0, z1, z2, z3, hbe⟩ := T2.out.ret 0 0 0 ⟨#[]⟩
   refine bodyPost_ret (v := .agg #[.int .i64 0, .int .i64 0, .string ⟨#[]⟩, .int .i64 0]) (by simp [results, results35, go_sem, z0, z1, z2, z3]) rfl ?_
   exact ⟨0, 0, 0, ⟨#[]⟩, rfl, HH.out, (by decide), hbe⟩
set_option maxRecDepth 1000000 in
set_option maxHeartbeats 6400000 in
theorem ROf_any (d : Int) (s : ByteArray) (w : World) (hs : s.size ≤ 1000000) :
  Calls Tryz.prog 36 #[.agg #[.int .i64 d, .string s]] w fun e w' => KAns (ofK VT (d, L s)) w w' e := by
 have HI := Lib.hid (ofK_int (d := d) (s := s))
 have HR := Lib.hid (ofK_ref (d := d) (s := s))
 have HX := Lib.hid (ofK_no (d := d) (s := s))
 have N := Lib.hid (fun W => RIsRef_any d s W hs)
 have SN := Lib.hid (str_nilK s)
 have HSL := Lib.hid (show s.toList = L s from Lib.toList_data s)
 generalize refT d (L s) = q at *
 generalize hK : ofK VT (d, L s) = K at *
 clear hK
 have T0 := Lib.hid (TB.start w d s)
 go_enter Tryz.func36, Tryz.ntmps36
 go_wp2_with fail
 refine (N.out _).mono ?_
 rintro e w1 ⟨rfl, hb⟩
 have T1 := Lib.hid (T0.out.next hb)
 clear hb
 have cA := T1.out.a
 have a0 := kcells_of cA 0
 have a1 := kcells_of cA 1
 simp only [List.getElem?_toArray, List.getElem?_cons_succ, List.getElem?_cons_zero] at a0 a1
 have hla := lt_of_block cA
 clear cA
 by_cases hi : d = 0 ∧ s = ⟨#[]⟩
 ·have e1 : (d == 0) = true := by simpa using hi.1
  have e2 : (s.toList == []) = true := by rw [HSL.out, SN.out.1 hi.2]; rfl
  have HH := Lib.hid (HI.out hi)
  clear hi
  go_upto_region 3 with fail
  have cR := T1.out.r
  have r0 := kcells_of cR 0
  have r1 := kcells_of cR 1
  have r2 := kcells_of cR 2
  have r3 := kcells_of cR 3
  have rf := kfree_of cR
  simp only [List.getElem?_toArray, List.getElem?_cons_succ, List.getElem?_cons_zero] at r0 r1 r2 r3
  have hlt := lt_of_block cR
  clear cR
  go_wp2
  obtain ⟨z0, z1, z2, z3, hbe⟩ := T1.out.ret 1 0 0 ⟨#[]⟩
  refine bodyPost_ret (v := .agg #[.int .i64 1, .int .i64 0, .string ⟨#[]⟩, .int .i64 0]) (by simp [results, results36, go_sem, z0, z1, z2, z3]) rfl ?_
  exact ⟨1, 0, 0, ⟨#[]⟩, rfl, HH.out, (by decide), hbe⟩
 ·have HRR := Lib.hid (HR.out hi)
  have HXX := Lib.hid (HX.out hi)
  by_cases hd : d = 0
  ·have e1 : (d == 0) = true := by simpa using hd
   have e2 : (s.toList == []) = false := by
    rw [beq_eq_false_iff_ne]
    exact fun e => hi ⟨hd, SN.out.2 (HSL.out.symm.trans e)⟩
   clear hi hd
   cases q with
   | true =>
    have HH := Lib.hid (HRR.out rfl)
    have cR := T1.out.r
    have r0 := kcells_of cR 0
    have r1 := kcells_of cR 1
    have r2 := kcells_of cR 2
    have r3 := kcells_of cR 3
    have rf := kfree_of cR
    simp only [List.getElem?_toArray, List.getElem?_cons_succ, List.getElem?_cons_zero] at r0 r1 r2 r3
    have hlt := lt_of_block cR
    clear cR
    go_wp2
    obtain ⟨z0, z1, z2, z3, hbe⟩ := T1.out.ret 3 d 0 s
    refine bodyPost_ret (v := .agg #[.int .i64 3, .int .i64 d, .string s, .int .i64 0]) (by simp [results, results36, go_sem, z0, z1, z2, z3]) rfl ?_
    exact ⟨3, d, 0, s, rfl, HH.out, hs, hbe⟩
   | false =>
    have HH := Lib.hid (HXX.out rfl)
    have cR := T1.out.r
    have r0 := kcells_of cR 0
    have r1 := kcells_of cR 1
    have r2 := kcells_of cR 2
    have r3 := kcells_of cR 3
    have rf := kfree_of cR
    simp only [List.getElem?_toArray, List.getElem?_cons_succ, List.getElem?_cons_zero] at r0 r1 r2 r3
    have hlt := lt_of_block cR
    clear cR
    go_wp2
    obtain ⟨z0, z1, z2, z3, hbe⟩ := T1.out.ret 0 0 0 ⟨#[]⟩
    refine bodyPost_ret (v := .agg #[.int .i64 0, .int .i64 0, .string ⟨#[]⟩, .int .i64 0]) (by simp [results, results36, go_sem, z0, z1, z2, z3]) rfl ?_
    exact ⟨0, 0, 0, ⟨#[]⟩, rfl, HH.out, (by decide), hbe⟩
  ·have e1 : (d == 0) = false := by simpa using hd
   clear hi hd
   cases q with
   | true =>
    have HH := Lib.hid (HRR.out rfl)
    have cR := T1.out.r
    have r0 := kcells_of cR 0
    have r1 := kcells_of cR 1
    have r2 := kcells_of cR 2
    have r3 := kcells_of cR 3
    have rf := kfree_of cR
    simp only [List.getElem?_toArray, List.getElem?_cons_succ, List.getElem?_cons_zero] at r0 r1 r2 r3
    have hlt := lt_of_block cR
    clear cR
    go_wp2
    obtain ⟨z0, z1, z2, z3, hbe⟩ := T1.out.ret 3 d 0 s
    refine bodyPost_ret (v := .agg #[.int .i64 3, .int .i64 d, .string s, .int .i64 0]) (by simp [results, results36, go_sem, z0, z1, z2, z3]) rfl ?_
    exact ⟨3, d, 0, s, rfl, HH.out, hs, hbe⟩
   | false =>
    have HH := Lib.hid (HXX.out rfl)
    have cR := T1.out.r
    have r0 := kcells_of cR 0
    have r1 := kcells_of cR 1
    have r2 := kcells_of cR 2
    have r3 := kcells_of cR 3
    have rf := kfree_of cR
    simp only [List.getElem?_toArray, List.getElem?_cons_succ, List.getElem?_cons_zero] at r0 r1 r2 r3
    have hlt := lt_of_block cR
    clear cR
    go_wp2
    obtain ⟨z0, z1, z2, z3, hbe⟩ := T1.out.ret 0 0 0 ⟨#[]⟩
    refine bodyPost_ret (v := .agg #[.int .i64 0, .int .i64 0, .string ⟨#[]⟩, .int .i64 0]) (by simp [results, results36, go_sem, z0, z1, z2, z3]) rfl ?_
    exact ⟨0, 0, 0, ⟨#[]⟩, rfl, HH.out, (by decide), hbe⟩
/-- A known and a type, boxed, and what is known of the type's values. -/
structure FBo (w0 : World) (ka da na : Int) (sa : ByteArray) (y : Nat) (kb db nb : Int) (sb : ByteArray) (w : World) : Prop where
 a : w.heap[w0.heap.size]? = some (.cells #[.int .i64 ka, .int .i64 da, .string sa, .int .i64 na] 64 (0, 0))
 y : w.heap[y]? = some (.cells #[.int .i64 kb, .int .i64 db, .string sb, .int .i64 nb] 64 (0, 0))
 below : Below w0.heap.size w0 w
theorem FBo.next {w0 w w' : World} {ka da na : Int} {sa : ByteArray} {y : Nat} {kb db nb : Int} {sb : ByteArray} (h : FBo w0 ka da na sa y kb db nb sb w) (hb : Below w.heap.size w w') : FBo w0 ka da na sa y kb db nb sb w' :=
 ⟨(hb.block _ (lt_of_block h.a)).trans h.a, (hb.block _ (lt_of_block h.y)).trans h.y, Below.hlink h.below hb⟩
theorem FBo.drew {w0 w : World} {ka da na : Int} {sa : ByteArray} {y : Nat} {kb db nb : Int} {sb : ByteArray} (h : FBo w0 ka da na sa y kb db nb sb w) : FBo w0 ka da na sa y kb db nb sb w.drew := ⟨h.a, h.y, h.below.drew⟩
set_option maxRecDepth 1000000 in
set_option maxHeartbeats 6400000 in
theorem Fits_any {B tb mb cap ow : Nat} {A : Option Addr} {cs : List PC} {cl sl : Nat → Nat} {S : Nat → List Nat} {ka da na d : Int} {sa s : ByteArray} {w : World} (h : HT B tb mb A cap ow cs cl sl S w) (hsa : sa.size ≤ 1000000) (hs : s.size ≤ 1000000) :
  Calls Tryz.prog 39 #[.pointer (some ⟨tb, 0, none⟩), .agg #[.int .i64 ka, .int .i64 da, .string sa, .int .i64 na], .agg #[.int .i64 d, .string s]] w fun e w' => BAns (FitsK cs VT (⟨ka, (da, L sa), na⟩ : KN) (d, L s)) w w' e := by
 have O := Lib.hid (fun W => Of_any d s W hs)
 have HF := Lib.hid (show FitsK cs VT (⟨ka, (da, L sa), na⟩ : KN) (d, L s) ↔ ofK VT (d, L s) ≠ topK ∧ BelowK cs VT (⟨ka, (da, L sa), na⟩ : KN) (ofK VT (d, L s)) from Iff.rfl)
 generalize FitsK cs VT (⟨ka, (da, L sa), na⟩ : KN) (d, L s) = pp at *
 generalize ofK VT (d, L s) = KK at *
 have hA := hheap_new w (.cells #[.int .i64 ka, .int .i64 da, .string sa, .int .i64 na] 64)
 go_enter Tryz.func39, Tryz.ntmps39
 go_wp2_with fail
 refine (O.out _).mono ?_
 rintro e w1 ⟨kb, db, nb, sb, rfl, hE, hsb, hb⟩
 have hA1 := (hb.block _ (lt_of_block (hheap_alloc_lt hA))).trans (hheap_alloc_lt (o := .cells #[.int .i64 d, .string s] 31) hA)
 have HB1 := Lib.hid ((((Below.refl w.heap.size w).alloc (Nat.le_refl _) (.cells #[.int .i64 ka, .int .i64 da, .string sa, .int .i64 na] 64)).alloc (by simp) (.cells #[.int .i64 d, .string s] 31)).trans (hb.mono (by simp; omega)))
 have F0 := Lib.hid (show FBo w ka da na sa w1.heap.size kb db nb sb (w1.alloc (.cells #[.int .i64 kb, .int .i64 db, .string sb, .int .i64 nb] 64)) from ⟨hheap_alloc_lt hA1, hheap_new _ _, HB1.out.alloc HB1.out.size _⟩)
 have HE := Lib.hid hE
 have HSB := Lib.hid hsb
 clear hA hA1 hb HB1 hE hsb
 go_upto_region 2 with fail
 obtain ⟨w2, hw2⟩ : ∃ x, x = w1.alloc (.cells #[.int .i64 kb, .int .i64 db, .string sb, .int .i64 nb] 64) := ⟨_, rfl⟩
 obtain ⟨y, hy⟩ : ∃ y, y = w1.heap.size := ⟨_, rfl⟩
 rw [← hw2, ← hy] at F0
 rw [← hw2, ← hy]
 clear hw2 hy
 have HT := Lib.hid h
 clear h
 have KT := Lib.hid (KN_eq kb db nb 0 0 0 sb ⟨#[]⟩)
 have q2 := fun V : World => neq64 kb db nb 0 0 0 sb ⟨#[]⟩ V
 by_cases ht : kb = 0 ∧ (db = 0 ∧ sb = ⟨#[]⟩) ∧ nb = 0
 ·rw [decide_eq_true ht] at q2
  have HN := Lib.hid (fun h : pp => (HF.out.1 h).1 (HE.out.symm.trans (KT.out.2 ht)))
  clear ht
  have T0 := F0.out.drew
  refine wp_region_held_drew (S := fun V => FBo w ka da na sa y kb db nb sb V) (by kernel_rfl) T0 (fun hS0 => ?_)
  refine wpAnyH_take (i := 0) (oi := ({ dst := some 10, op := .load 64 (.tmp 7), type := 64, pos := "lattice.go:68", after := #[], guard := none } : Oper)) (v := ?av1) rfl (by kernel_rfl) (by kernel_rfl) (by kernel_rfl) (fun _ _ _ h => h) (Or.inl ⟨by rfl, ?ay1⟩) T0 ?_
  case ay1 => (intro V hSw; have cy0 : V.cell? ⟨y, 0, none⟩ = some (.int .i64 kb) := kcells_of hSw.y 0; have cy1 : V.cell? ⟨y, 1, none⟩ = some (.int .i64 db) := kcells_of hSw.y 1; have cy2 : V.cell? ⟨y, 2, none⟩ = some (.string sb) := kcells_of hSw.y 2; have cy3 : V.cell? ⟨y, 3, none⟩ = some (.int .i64 nb) := kcells_of hSw.y 3; go_simp; try with_reducible rfl)
  try simp only [pu0, puN, pu1, pu2, pu3]
  refine wpAnyH_ready (rs := [1]) (by kernel_rfl) (by simp) ?_
  refine (AllReadyH.cons (o := _) rfl (fun K hK => ?_) AllReadyH.nil)
  go_simp
  refine (top_any _).mono ?_
  rintro e P2 ⟨rfl, hb2⟩
  have T2 := T0.next hb2
  try go_wp2_with fail
  refine hK.out _ _ T2 (fun hS2 => ?_)
  clear hK K
  try simp only [pu0, puN, pu1, pu2, pu3]
  refine wpAnyH_take (i := 2) (oi := ({ dst := some 12, op := .binOp .neq 64 (.tmp 10) (.tmp 11) 64, type := 4, pos := "lattice.go:68", after := #[⟨0, .data⟩, ⟨1, .data⟩], guard := none } : Oper)) (v := ?av3) rfl (by kernel_rfl) (by kernel_rfl) (by kernel_rfl) (fun _ _ _ h => h) (Or.inl ⟨by rfl, ?ay3⟩) T2 ?_
  case ay3 => (intro V hSw; go_simp; try with_reducible rfl)
  try simp only [pu0, puN, pu1, pu2, pu3]
  refine wpAnyH_take (i := 3) (oi := ({ dst := some 13, op := .move (.tmp 12), type := 4, pos := "lattice.go:68", after := #[⟨2, .data⟩, ⟨1, .chain⟩], guard := none } : Oper)) (v := ?av4) rfl (by kernel_rfl) (by kernel_rfl) (by kernel_rfl) (fun _ _ _ h => h) (Or.inl ⟨by rfl, ?ay4⟩) T2 ?_
  case ay4 => (intro V hSw; go_simp; try with_reducible rfl)
  try simp only [pu0, puN, pu1, pu2, pu3]
  refine wpAnyH_take (i := 4) (oi := ({ dst := some 14, op := .move (.tmp 0), type := 32, pos := "lattice.go:68", after := #[⟨3, .guard⟩], guard := some (3, true) } : Oper)) (v := undef) rfl (by kernel_rfl) (by kernel_rfl) (by kernel_rfl) (fun _ _ _ h => h) (Or.inr ⟨by rfl, rfl⟩) T2 ?_
  try simp only [pu0, puN, pu1, pu2, pu3]
  refine wpAnyH_take (i := 5) (oi := ({ dst := some 15, op := .load 64 (.tmp 4), type := 64, pos := "lattice.go:68", after := #[⟨3, .guard⟩], guard := some (3, true) } : Oper)) (v := undef) rfl (by kernel_rfl) (by kernel_rfl) (by kernel_rfl) (fun _ _ _ h => h) (Or.inr ⟨by rfl, rfl⟩) T2 ?_
  try simp only [pu0, puN, pu1, pu2, pu3]
  refine wpAnyH_take (i := 6) (oi := ({ dst := some 16, op := .load 64 (.tmp 7), type := 64, pos := "lattice.go:68", after := #[⟨3, .guard⟩], guard := some (3, true) } : Oper)) (v := undef) rfl (by kernel_rfl) (by kernel_rfl) (by kernel_rfl) (fun _ _ _ h => h) (Or.inr ⟨by rfl, rfl⟩) T2 ?_
  try simp only [pu0, puN, pu1, pu2, pu3]
  refine wpAnyH_take (i := 7) (oi := ({ dst := some 17, op := .call { callee := .value (.func 43), args := #[.tmp 14, .tmp 15, .tmp 16], argTypes := #[32, 64, 64] }, type := 4, pos := "lattice.go:68", after := #[⟨4, .data⟩, ⟨5, .data⟩, ⟨6, .data⟩, ⟨3, .chain⟩, ⟨3, .guard⟩], guard := some (3, true) } : Oper)) (v := undef) rfl (by kernel_rfl) (by kernel_rfl) (by kernel_rfl) (fun _ _ _ h => h) (Or.inr ⟨by rfl, rfl⟩) T2 ?_
  try simp only [pu0, puN, pu1, pu2, pu3]
  refine wpAnyH_take (i := 8) (oi := ({ dst := some 18, op := .pick (.tmp 13) (.tmp 17) (.const (.bool false)), type := 4, pos := "lattice.go:68", after := #[⟨3, .data⟩, ⟨7, .data⟩], guard := none } : Oper)) (v := ?av5) rfl (by kernel_rfl) (by kernel_rfl) (by kernel_rfl) (fun _ _ _ h => h) (Or.inl ⟨by rfl, ?ay5⟩) T2 ?_
  case ay5 => (intro V hSw; go_simp; try with_reducible rfl)
  try simp only [pu0, puN, pu1, pu2, pu3]
  refine wpAnyH_take (i := 9) (oi := ({ dst := some 6, op := .assign (.tmp 18), type := 4, pos := "lattice.go:68", after := #[⟨8, .data⟩, ⟨7, .chain⟩, ⟨0, .phase⟩, ⟨1, .phase⟩, ⟨2, .phase⟩, ⟨3, .phase⟩, ⟨4, .phase⟩, ⟨5, .phase⟩, ⟨6, .phase⟩, ⟨7, .phase⟩, ⟨8, .phase⟩], guard := none } : Oper)) (v := ?av6) rfl (by kernel_rfl) (by kernel_rfl) (by kernel_rfl) (fun _ _ _ h => h) (Or.inl ⟨by rfl, ?ay6⟩) T2 ?_
  case ay6 => (intro V hSw; go_simp; try with_reducible rfl)
  try simp only [pu0, puN, pu1, pu2, pu3]
  refine wpAnyH_done (by kernel_rfl) ?_ _
  try go_wp2
  go_ret
  exact ⟨false, rfl, ⟨fun h => (by cases h), fun h => absurd h HN.out⟩, T2.below⟩
 ·rw [decide_eq_false ht] at q2
  have HH := Lib.hid (HF.out.trans ⟨fun h => h.2, fun h => ⟨fun e => ht (KT.out.1 (HE.out.trans e)), h⟩⟩)
  clear ht
  have T0 := F0.out.drew
  refine wp_region_held_drew (S := fun V => FBo w ka da na sa y kb db nb sb V) (by kernel_rfl) T0 (fun hS0 => ?_)
  refine wpAnyH_take (i := 0) (oi := ({ dst := some 10, op := .load 64 (.tmp 7), type := 64, pos := "lattice.go:68", after := #[], guard := none } : Oper)) (v := ?av7) rfl (by kernel_rfl) (by kernel_rfl) (by kernel_rfl) (fun _ _ _ h => h) (Or.inl ⟨by rfl, ?ay7⟩) T0 ?_
  case ay7 => (intro V hSw; have cy0 : V.cell? ⟨y, 0, none⟩ = some (.int .i64 kb) := kcells_of hSw.y 0; have cy1 : V.cell? ⟨y, 1, none⟩ = some (.int .i64 db) := kcells_of hSw.y 1; have cy2 : V.cell? ⟨y, 2, none⟩ = some (.string sb) := kcells_of hSw.y 2; have cy3 : V.cell? ⟨y, 3, none⟩ = some (.int .i64 nb) := kcells_of hSw.y 3; go_simp; try with_reducible rfl)
  try simp only [pu0, puN, pu1, pu2, pu3]
  refine wpAnyH_ready (rs := [1]) (by kernel_rfl) (by simp) ?_
  refine (AllReadyH.cons (o := _) rfl (fun K hK => ?_) AllReadyH.nil)
  go_simp
  refine (top_any _).mono ?_
  rintro e P8 ⟨rfl, hb8⟩
  have T8 := T0.next hb8
  try go_wp2_with fail
  refine hK.out _ _ T8 (fun hS8 => ?_)
  clear hK K
  try simp only [pu0, puN, pu1, pu2, pu3]
  refine wpAnyH_take (i := 2) (oi := ({ dst := some 12, op := .binOp .neq 64 (.tmp 10) (.tmp 11) 64, type := 4, pos := "lattice.go:68", after := #[⟨0, .data⟩, ⟨1, .data⟩], guard := none } : Oper)) (v := ?av9) rfl (by kernel_rfl) (by kernel_rfl) (by kernel_rfl) (fun _ _ _ h => h) (Or.inl ⟨by rfl, ?ay9⟩) T8 ?_
  case ay9 => (intro V hSw; go_simp; try with_reducible rfl)
  try simp only [pu0, puN, pu1, pu2, pu3]
  refine wpAnyH_take (i := 3) (oi := ({ dst := some 13, op := .move (.tmp 12), type := 4, pos := "lattice.go:68", after := #[⟨2, .data⟩, ⟨1, .chain⟩], guard := none } : Oper)) (v := ?av10) rfl (by kernel_rfl) (by kernel_rfl) (by kernel_rfl) (fun _ _ _ h => h) (Or.inl ⟨by rfl, ?ay10⟩) T8 ?_
  case ay10 => (intro V hSw; go_simp; try with_reducible rfl)
  try simp only [pu0, puN, pu1, pu2, pu3]
  refine wpAnyH_take (i := 4) (oi := ({ dst := some 14, op := .move (.tmp 0), type := 32, pos := "lattice.go:68", after := #[⟨3, .guard⟩], guard := some (3, true) } : Oper)) (v := ?av11) rfl (by kernel_rfl) (by kernel_rfl) (by kernel_rfl) (fun _ _ _ h => h) (Or.inl ⟨by rfl, ?ay11⟩) T8 ?_
  case ay11 => (intro V hSw; go_simp; try with_reducible rfl)
  try simp only [pu0, puN, pu1, pu2, pu3]
  refine wpAnyH_take (i := 5) (oi := ({ dst := some 15, op := .load 64 (.tmp 4), type := 64, pos := "lattice.go:68", after := #[⟨3, .guard⟩], guard := some (3, true) } : Oper)) (v := ?av12) rfl (by kernel_rfl) (by kernel_rfl) (by kernel_rfl) (fun _ _ _ h => h) (Or.inl ⟨by rfl, ?ay12⟩) T8 ?_
  case ay12 => (intro V hSw; have ca0 : V.cell? ⟨w.heap.size, 0, none⟩ = some (.int .i64 ka) := kcells_of hSw.a 0; have ca1 : V.cell? ⟨w.heap.size, 1, none⟩ = some (.int .i64 da) := kcells_of hSw.a 1; have ca2 : V.cell? ⟨w.heap.size, 2, none⟩ = some (.string sa) := kcells_of hSw.a 2; have ca3 : V.cell? ⟨w.heap.size, 3, none⟩ = some (.int .i64 na) := kcells_of hSw.a 3; go_simp; try with_reducible rfl)
  try simp only [pu0, puN, pu1, pu2, pu3]
  refine wpAnyH_take (i := 6) (oi := ({ dst := some 16, op := .load 64 (.tmp 7), type := 64, pos := "lattice.go:68", after := #[⟨3, .guard⟩], guard := some (3, true) } : Oper)) (v := ?av13) rfl (by kernel_rfl) (by kernel_rfl) (by kernel_rfl) (fun _ _ _ h => h) (Or.inl ⟨by rfl, ?ay13⟩) T8 ?_
  case ay13 => (intro V hSw; have cy0 : V.cell? ⟨y, 0, none⟩ = some (.int .i64 kb) := kcells_of hSw.y 0; have cy1 : V.cell? ⟨y, 1, none⟩ = some (.int .i64 db) := kcells_of hSw.y 1; have cy2 : V.cell? ⟨y, 2, none⟩ = some (.string sb) := kcells_of hSw.y 2; have cy3 : V.cell? ⟨y, 3, none⟩ = some (.int .i64 nb) := kcells_of hSw.y 3; go_simp; try with_reducible rfl)
  try simp only [pu0, puN, pu1, pu2, pu3]
  refine wpAnyH_ready (rs := [7]) (by kernel_rfl) (by simp) ?_
  refine (AllReadyH.cons (o := _) rfl (fun K hK => ?_) AllReadyH.nil)
  go_simp
  refine (Below_any (HT.out.below (T8.below.mono HT.out.hB)) hsa HSB.out).mono ?_
  rintro e P14 ⟨r, rfl, hr, hb14⟩
  have HR := Lib.hid hr
  have T14 := T8.next hb14
  clear hr
  try go_wp2_with fail
  refine hK.out _ _ T14 (fun hS14 => ?_)
  clear hK K
  try simp only [pu0, puN, pu1, pu2, pu3]
  refine wpAnyH_take (i := 8) (oi := ({ dst := some 18, op := .pick (.tmp 13) (.tmp 17) (.const (.bool false)), type := 4, pos := "lattice.go:68", after := #[⟨3, .data⟩, ⟨7, .data⟩], guard := none } : Oper)) (v := ?av15) rfl (by kernel_rfl) (by kernel_rfl) (by kernel_rfl) (fun _ _ _ h => h) (Or.inl ⟨by rfl, ?ay15⟩) T14 ?_
  case ay15 => (intro V hSw; go_simp; try with_reducible rfl)
  try simp only [pu0, puN, pu1, pu2, pu3]
  refine wpAnyH_take (i := 9) (oi := ({ dst := some 6, op := .assign (.tmp 18), type := 4, pos := "lattice.go:68", after := #[⟨8, .data⟩, ⟨7, .chain⟩, ⟨0, .phase⟩, ⟨1, .phase⟩, ⟨2, .phase⟩, ⟨3, .phase⟩, ⟨4, .phase⟩, ⟨5, .phase⟩, ⟨6, .phase⟩, ⟨7, .phase⟩, ⟨8, .phase⟩], guard := none } : Oper)) (v := ?av16) rfl (by kernel_rfl) (by kernel_rfl) (by kernel_rfl) (fun _ _ _ h => h) (Or.inl ⟨by rfl, ?ay16⟩) T14 ?_
  case ay16 => (intro V hSw; go_simp; try with_reducible rfl)
  try simp only [pu0, puN, pu1, pu2, pu3]
  refine wpAnyH_done (by kernel_rfl) ?_ _
  try go_wp2
  go_ret
  exact ⟨r, rfl, HR.out.trans (by rw [HE.out]; exact HH.out.symm), T14.below⟩
set_option maxRecDepth 1000000 in
set_option maxHeartbeats 6400000 in
theorem RFits_any {B p cap ow : Nat} {A : Option Addr} {cs : List PC} {ka da na d : Int} {sa s : ByteArray} {w : World} (h : RT B p A cap cs ow w) (G : Good cs) (hN : NamesOk cs) (hsa : sa.size ≤ 1000000) (hs : s.size ≤ 1000000) :
  Calls Tryz.prog 40 #[.pointer (some ⟨p, 0, none⟩), .agg #[.int .i64 ka, .int .i64 da, .string sa, .int .i64 na], .agg #[.int .i64 d, .string s]] w fun e w' => BAns (FitsK cs VT (⟨ka, (da, L sa), na⟩ : KN) (d, L s)) w w' e := by
 have O := Lib.hid (fun W => ROf_any d s W hs)
 have HF := Lib.hid (show FitsK cs VT (⟨ka, (da, L sa), na⟩ : KN) (d, L s) ↔ ofK VT (d, L s) ≠ topK ∧ BelowK cs VT (⟨ka, (da, L sa), na⟩ : KN) (ofK VT (d, L s)) from Iff.rfl)
 generalize FitsK cs VT (⟨ka, (da, L sa), na⟩ : KN) (d, L s) = pp at *
 generalize ofK VT (d, L s) = KK at *
 have hA := hheap_new w (.cells #[.int .i64 ka, .int .i64 da, .string sa, .int .i64 na] 64)
 go_enter Tryz.func40, Tryz.ntmps40
 go_wp2_with fail
 refine (O.out _).mono ?_
 rintro e w1 ⟨kb, db, nb, sb, rfl, hE, hsb, hb⟩
 have hA1 := (hb.block _ (lt_of_block (hheap_alloc_lt hA))).trans (hheap_alloc_lt (o := .cells #[.int .i64 d, .string s] 31) hA)
 have HB1 := Lib.hid ((((Below.refl w.heap.size w).alloc (Nat.le_refl _) (.cells #[.int .i64 ka, .int .i64 da, .string sa, .int .i64 na] 64)).alloc (by simp) (.cells #[.int .i64 d, .string s] 31)).trans (hb.mono (by simp; omega)))
 have F0 := Lib.hid (show FBo w ka da na sa w1.heap.size kb db nb sb (w1.alloc (.cells #[.int .i64 kb, .int .i64 db, .string sb, .int .i64 nb] 64)) from ⟨hheap_alloc_lt hA1, hheap_new _ _, HB1.out.alloc HB1.out.size _⟩)
 have HE := Lib.hid hE
 have HSB := Lib.hid hsb
 clear hA hA1 hb HB1 hE hsb
 go_upto_region 2 with fail
 obtain ⟨w2, hw2⟩ : ∃ x, x = w1.alloc (.cells #[.int .i64 kb, .int .i64 db, .string sb, .int .i64 nb] 64) := ⟨_, rfl⟩
 obtain ⟨y, hy⟩ : ∃ y, y = w1.heap.size := ⟨_, rfl⟩
 rw [← hw2, ← hy] at F0
 rw [← hw2, ← hy]
 clear hw2 hy
 have HL := Lib.hid (fun W (hb : Below w.heap.size w W) => RBelow_any (ka := ka) (da := da) (na := na) (sa := sa) (kb := kb) (db := db) (nb := nb) (sb := sb) (h.link hb) G hN hsa HSB.out)
 clear h
 have a0 := kcells_of F0.out.a 0
 have a1 := kcells_of F0.out.a 1
 have a2 := kcells_of F0.out.a 2
 have a3 := kcells_of F0.out.a 3
 have b0 := kcells_of F0.out.y 0
 have b1 := kcells_of F0.out.y 1
 have b2 := kcells_of F0.out.y 2
 have b3 := kcells_of F0.out.y 3
 simp only [List.getElem?_toArray, List.getElem?_cons_succ, List.getElem?_cons_zero] at a0 a1 a2 a3 b0 b1 b2 b3
 have hla := lt_of_block F0.out.a
 have hly := lt_of_block F0.out.y
 go_wp2_with fail
 refine (HL.out _ F0.out.below).mono ?_
 rintro e w3 ⟨r, rfl, hr, hb⟩
 have F1 := Lib.hid (F0.out.next hb)
 have HR := Lib.hid hr
 clear hr hb a0 a1 a2 a3 b0 b1 b2 b3 hla hly
 have a0 := kcells_of F1.out.a 0
 have a1 := kcells_of F1.out.a 1
 have a2 := kcells_of F1.out.a 2
 have a3 := kcells_of F1.out.a 3
 have b0 := kcells_of F1.out.y 0
 have b1 := kcells_of F1.out.y 1
 have b2 := kcells_of F1.out.y 2
 have b3 := kcells_of F1.out.y 3
 simp only [List.getElem?_toArray, List.getElem?_cons_succ, List.getElem?_cons_zero] at a0 a1 a2 a3 b0 b1 b2 b3
 have hla := lt_of_block F1.out.a
 have hly := lt_of_block F1.out.y
 by_cases ht : kb = 0
 ·have e0 : (kb != 0) = false := by simpa using ht
  have HN := Lib.hid (fun h : pp => (HF.out.1 h).1 (by
   have hb := (HF.out.1 h).2.2.1
   rw [← HE.out] at hb ⊢
   exact right_kind0 hb ht))
  clear ht
  go_wp2
  go_ret
  exact ⟨false, rfl, ⟨fun h => (by cases h), fun h => absurd h HN.out⟩, F1.out.below⟩
 ·have e0 : (kb != 0) = true := by simpa using ht
  have HH := Lib.hid (HF.out.trans ⟨fun h => h.2, fun h => ⟨fun e => ht (congrArg KN.kind (HE.out.trans e)), h⟩⟩)
  clear ht
  go_wp2
  go_ret
  exact ⟨r, rfl, HR.out.trans (by rw [HE.out]; exact HH.out.symm), F1.out.below⟩
/-- A row of knowns. -/
def KRow (B : Nat) (w : World) (v : Value) (l : List KQ) : Prop := Row B 4 w v l.length (kcells l)
theorem KRow.at_ {B : Nat} {w : World} {A : Option Addr} {n cap k : Nat} {l : List KQ} {q : KQ} (h : KRow B w (.slice A n cap) l) (hk : l[k]? = some q) :
  ∃ b o, A = some ⟨b, o, none⟩ ∧ b < B ∧ w.cell? ⟨b, o + k * 4, none⟩ = some (.int .i64 q.1) ∧ w.cell? ⟨b, o + k * 4 + 1, none⟩ = some (.int .i64 q.2.1) ∧ w.cell? ⟨b, o + k * 4 + 2, none⟩ = some (.string q.2.2.1) ∧ w.cell? ⟨b, o + k * 4 + 3, none⟩ = some (.int .i64 q.2.2.2) := by
 obtain ⟨A', cap', e, _, _, _, h2⟩ := h
 injection e with e1 e2 e3
 subst e1
 have hl : k < l.length := (List.getElem?_eq_some_iff.1 hk).1
 obtain ⟨b, o, e, hb, hc⟩ := h2 (by omega)
 obtain ⟨k0, k1, k2, k3⟩ := kcells_at hk
 exact ⟨b, o, e, hb, hc _ _ k0, hc _ _ k1, hc _ _ k2, hc _ _ k3⟩
theorem KRow.form {B : Nat} {w : World} {v : Value} {l : List KQ} (h : KRow B w v l) : ∃ A cap, v = .slice A l.length cap ∧ l.length ≤ cap ∧ l.length ≤ maxLen := by
 obtain ⟨A, cap, e, h1, h2, _⟩ := h
 exact ⟨A, cap, e, h1, h2⟩
theorem KRow.below {B : Nat} {w w' : World} {v : Value} {l : List KQ} (h : KRow B w v l) (hb : Below B w w') : KRow B w' v l := Row.keep h (fun p hp => hb.cell hp)
end Go.Proofs.YtmaknddlgppinaaGreatDoor
