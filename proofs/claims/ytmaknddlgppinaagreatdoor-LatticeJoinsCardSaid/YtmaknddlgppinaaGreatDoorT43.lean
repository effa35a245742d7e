/-
  CUT and joined from the texts of this seat: Na Rg
-/
import Derived.Test.YtmaknddlgppinaaGreatDoorT16
import Derived.Test.YtmaknddlgppinaaGreatDoorT42
set_option linter.unusedVariables false
set_option linter.unusedSimpArgs false
namespace Go.Proofs.YtmaknddlgppinaaGreatDoor
open Go.RowKit
set_option maxRecDepth 1000000 in
set_option maxHeartbeats 6400000 in
theorem RRight64_any (k d n : Int) (s : ByteArray) (w : World) (hs : s.size ≤ 1000000) :
  Calls Tryz.prog 38 #[.agg #[.int .i64 k, .int .i64 d, .string s, .int .i64 n]] w fun e w' => e = .returned (.bool (rightKB k d (L s) n)) ∧ Below w.heap.size w w' := by
 have HE := Lib.hid (show rightKB k d (L s) n = if k = 0 ∨ k = 1 ∨ k = 2 ∨ k = 5 then decide (d = 0 ∧ L s = [] ∧ n = 0) else if k = 3 then decide (n = 0) && refT d (L s) else if k = 4 then decide (d = 0 ∧ L s = []) && decide (0 ≤ n) else false from rfl)
 have B0 := Lib.hid ((Below.refl w.heap.size w).alloc (Nat.le_refl _) (.cells #[.int .i64 k, .int .i64 d, .string s, .int .i64 n] 64))
 have N := Lib.hid (RIsRef_any d s (w.alloc (.cells #[.int .i64 k, .int .i64 d, .string s, .int .i64 n] 64)) hs)
 have nb := hheap_new w (.cells #[.int .i64 k, .int .i64 d, .string s, .int .i64 n] 64)
 have hlw := lt_of_block nb
 have HSL := Lib.hid (show s.toList = L s from Lib.toList_data s)
 generalize rightKB k d (L s) n = R at *
 generalize refT d (L s) = q at *
 go_enter Tryz.func38, Tryz.ntmps38
 go_wp2_with fail
 refine N.out.mono ?_
 rintro e w1 ⟨rfl, hb⟩
 have nb1 := (hb.block _ hlw).trans nb
 have B1 := Lib.hid (Below.hlink B0.out hb)
 clear hb nb hlw N B0
 have k0 := kcells_of nb1 0
 have k1 := kcells_of nb1 1
 have k2 := kcells_of nb1 2
 have k3 := kcells_of nb1 3
 simp only [List.getElem?_toArray, List.getElem?_cons_succ, List.getElem?_cons_zero] at k0 k1 k2 k3
 have hlw := lt_of_block nb1
 clear nb1
 by_cases h0 : k < 0
 ·have e0 : decide (k < 0) = true := decide_eq_true h0
  have hR : R = false := by rw [HE.out, if_neg (by omega), if_neg (by omega), if_neg (by omega)]
  clear HE HSL
  go_wp2
  go_ret
  exact ⟨by first | rfl | exact ret_bool hR.symm, B1.out⟩
 by_cases h5 : 5 < k
 ·have e0 : decide (k < 0) = false := decide_eq_false h0
  have e5 : decide (5 < k) = true := decide_eq_true h5
  have e6 : decide (k > 5) = true := decide_eq_true h5
  have hR : R = false := by rw [HE.out, if_neg (by omega), if_neg (by omega), if_neg (by omega)]
  clear HE HSL
  go_wp2
  go_ret
  exact ⟨by first | rfl | exact ret_bool hR.symm, B1.out⟩
 have hk : k = 0 ∨ k = 1 ∨ k = 2 ∨ k = 3 ∨ k = 4 ∨ k = 5 := by omega
 clear h0 h5
 rcases hk with rfl | rfl | rfl | rfl | rfl | rfl
 ·by_cases hd : d = 0
  ·have d1 : (d != 0) = false := by simpa using hd
   have d2 : (d == 0) = true := by simpa using hd
   have HD := Lib.hid hd
   clear hd
   by_cases hs0 : s.toList = []
   ·have f1 : (s.toList == []) = true := by simpa using hs0
    have f2 : (s.toList != []) = false := by simpa using hs0
    have f3 : s.toList.isEmpty = true := by simpa using hs0
    have HS0 := Lib.hid (HSL.out.symm.trans hs0)
    clear hs0
    by_cases hn : n = 0
    ·have g1 : (n == 0) = true := by simpa using hn
     have HN := Lib.hid hn
     clear hn
     have hR : R = true := by rw [HE.out, if_pos (by omega)]; exact decide_eq_true ⟨HD.out, HS0.out, HN.out⟩
     clear HE HSL
     go_wp2
     go_ret
     exact ⟨by first | rfl | exact ret_bool hR.symm, B1.out⟩
    ·have g1 : (n == 0) = false := by simpa using hn
     have HN := Lib.hid hn
     clear hn
     have hR : R = false := by rw [HE.out, if_pos (by omega)]; exact decide_eq_false (fun h => HN.out h.2.2)
     clear HE HSL
     go_wp2
     go_ret
     exact ⟨by first | rfl | exact ret_bool hR.symm, B1.out⟩
   ·have f1 : (s.toList == []) = false := by simpa using hs0
    have f2 : (s.toList != []) = true := by simpa using hs0
    have f3 : s.toList.isEmpty = false := by simpa using hs0
    have HS0 := Lib.hid (fun h : L s = [] => hs0 (HSL.out.trans h))
    clear hs0
    have hR : R = false := by rw [HE.out, if_pos (by omega)]; exact decide_eq_false (fun h => HS0.out h.2.1)
    clear HE HSL
    go_wp2
    go_ret
    exact ⟨by first | rfl | exact ret_bool hR.symm, B1.out⟩
  ·have d1 : (d != 0) = true := by simpa using hd
   have d2 : (d == 0) = false := by simpa using hd
   have HD := Lib.hid hd
   clear hd
   have hR : R = false := by rw [HE.out, if_pos (by omega)]; simp [HD.out]
   clear HE HSL
   go_wp2
   go_ret
   exact ⟨by first | rfl | exact ret_bool hR.symm, B1.out⟩
 ·by_cases hd : d = 0
  ·have d1 : (d != 0) = false := by simpa using hd
   have d2 : (d == 0) = true := by simpa using hd
   have HD := Lib.hid hd
   clear hd
   by_cases hs0 : s.toList = []
   ·have f1 : (s.toList == []) = true := by simpa using hs0
    have f2 : (s.toList != []) = false := by simpa using hs0
    have f3 : s.toList.isEmpty = true := by simpa using hs0
    have HS0 := Lib.hid (HSL.out.symm.trans hs0)
    clear hs0
    by_cases hn : n = 0
    ·have g1 : (n == 0) = true := by simpa using hn
     have HN := Lib.hid hn
     clear hn
     have hR : R = true := by rw [HE.out, if_pos (by omega)]; exact decide_eq_true ⟨HD.out, HS0.out, HN.out⟩
     clear HE HSL
     go_wp2
     go_ret
     exact ⟨by first | rfl | exact ret_bool hR.symm, B1.out⟩
    ·have g1 : (n == 0) = false := by simpa using hn
     have HN := Lib.hid hn
     clear hn
     have hR : R = false := by rw [HE.out, if_pos (by omega)]; exact decide_eq_false (fun h => HN.out h.2.2)
     clear HE HSL
     go_wp2
     go_ret
     exact ⟨by first | rfl | exact ret_bool hR.symm, B1.out⟩
   ·have f1 : (s.toList == []) = false := by simpa using hs0
    have f2 : (s.toList != []) = true := by simpa using hs0
    have f3 : s.toList.isEmpty = false := by simpa using hs0
    have HS0 := Lib.hid (fun h : L s = [] => hs0 (HSL.out.trans h))
    clear hs0
    have hR : R = false := by rw [HE.out, if_pos (by omega)]; exact decide_eq_false (fun h => HS0.out h.2.1)
    clear HE HSL
    go_wp2
    go_ret
    exact ⟨by first | rfl | exact ret_bool hR.symm, B1.out⟩
  ·have d1 : (d != 0) = true := by simpa using hd
   have d2 : (d == 0) = false := by simpa using hd
   have HD := Lib.hid hd
   clear hd
   have hR : R = false := by rw [HE.out, if_pos (by omega)]; simp [HD.out]
   clear HE HSL
   go_wp2
   go_ret
   exact ⟨by first | rfl | exact ret_bool hR.symm, B1.out⟩
 ·by_cases hd : d = 0
  ·have d1 : (d != 0) = false := by simpa using hd
   have d2 : (d == 0) = true := by simpa using hd
   have HD := Lib.hid hd
   clear hd
   by_cases hs0 : s.toList = []
   ·have f1 : (s.toList == []) = true := by simpa using hs0
    have f2 : (s.toList != []) = false := by simpa using hs0
    have f3 : s.toList.isEmpty = true := by simpa using hs0
    have HS0 := Lib.hid (HSL.out.symm.trans hs0)
    clear hs0
    by_cases hn : n = 0
    ·have g1 : (n == 0) = true := by simpa using hn
     have HN := Lib.hid hn
     clear hn
     have hR : R = true := by rw [HE.out, if_pos (by omega)]; exact decide_eq_true ⟨HD.out, HS0.out, HN.out⟩
     clear HE HSL
     go_wp2
     go_ret
     exact ⟨by first | rfl | exact ret_bool hR.symm, B1.out⟩
    ·have g1 : (n == 0) = false := by simpa using hn
     have HN := Lib.hid hn
     clear hn
     have hR : R = false := by rw [HE.out, if_pos (by omega)]; exact decide_eq_false (fun h => HN.out h.2.2)
     clear HE HSL
     go_wp2
     go_ret
     exact ⟨by first | rfl | exact ret_bool hR.symm, B1.out⟩
   ·have f1 : (s.toList == []) = false := by simpa using hs0
    have f2 : (s.toList != []) = true := by simpa using hs0
    have f3 : s.toList.isEmpty = false := by simpa using hs0
    have HS0 := Lib.hid (fun h : L s = [] => hs0 (HSL.out.trans h))
    clear hs0
    have hR : R = false := by rw [HE.out, if_pos (by omega)]; exact decide_eq_false (fun h => HS0.out h.2.1)
    clear HE HSL
    go_wp2
    go_ret
    exact ⟨by first | rfl | exact ret_bool hR.symm, B1.out⟩
  ·have d1 : (d != 0) = true := by simpa using hd
   have d2 : (d == 0) = false := by simpa using hd
   have HD := Lib.hid hd
   clear hd
   have hR : R = false := by rw [HE.out, if_pos (by omega)]; simp [HD.out]
   clear HE HSL
   go_wp2
   go_ret
   exact ⟨by first | rfl | exact ret_bool hR.symm, B1.out⟩
 ·cases q with
  | false =>
   have hR : R = false := by rw [HE.out, if_neg (by omega), if_pos rfl]; simp
   clear HE HSL
   go_wp2
   go_ret
   exact ⟨by first | rfl | exact ret_bool hR.symm, B1.out⟩
  | true =>
   by_cases hn : n = 0
   ·have g1 : (n == 0) = true := by simpa using hn
    have HN := Lib.hid hn
    clear hn
    have hR : R = true := by rw [HE.out, if_neg (by omega), if_pos rfl]; simp [HN.out]
    clear HE HSL
    go_wp2
    go_ret
    exact ⟨by first | rfl | exact ret_bool hR.symm, B1.out⟩
   ·have g1 : (n == 0) = false := by simpa using hn
    have HN := Lib.hid hn
    clear hn
    have hR : R = false := by rw [HE.out, if_neg (by omega), if_pos rfl]; simp [HN.out]
    clear HE HSL
    go_wp2
    go_ret
    exact ⟨by first | rfl | exact ret_bool hR.symm, B1.out⟩
 ·by_cases hd : d = 0
  ·have d1 : (d != 0) = false := by simpa using hd
   have d2 : (d == 0) = true := by simpa using hd
   have HD := Lib.hid hd
   clear hd
   by_cases hs0 : s.toList = []
   ·have f1 : (s.toList == []) = true := by simpa using hs0
    have f2 : (s.toList != []) = false := by simpa using hs0
    have f3 : s.toList.isEmpty = true := by simpa using hs0
    have HS0 := Lib.hid (HSL.out.symm.trans hs0)
    clear hs0
    by_cases hn : 0 ≤ n
    ·have g1 : decide (0 ≤ n) = true := decide_eq_true hn
     have g2 : decide (n ≥ 0) = true := decide_eq_true hn
     have HN := Lib.hid hn
     clear hn
     have hR : R = true := by rw [HE.out, if_neg (by omega), if_neg (by omega), if_pos rfl, decide_eq_true (⟨HD.out, HS0.out⟩ : d = 0 ∧ L s = []), decide_eq_true HN.out]; rfl
     clear HE HSL
     go_wp2
     go_ret
     exact ⟨by first | rfl | exact ret_bool hR.symm, B1.out⟩
    ·have g1 : decide (0 ≤ n) = false := decide_eq_false hn
     have g2 : decide (n ≥ 0) = false := decide_eq_false hn
     have g3 : (n == 0) = false := by rw [beq_eq_false_iff_ne]; omega
     have HN := Lib.hid hn
     clear hn
     have hR : R = false := by rw [HE.out, if_neg (by omega), if_neg (by omega), if_pos rfl]; simp [HN.out]
     clear HE HSL
     go_wp2
     go_ret
     exact ⟨by first | rfl | exact ret_bool hR.symm, B1.out⟩
   ·have f1 : (s.toList == []) = false := by simpa using hs0
    have f2 : (s.toList != []) = true := by simpa using hs0
    have f3 : s.toList.isEmpty = false := by simpa using hs0
    have HS0 := Lib.hid (fun h : L s = [] => hs0 (HSL.out.trans h))
    clear hs0
    have hR : R = false := by rw [HE.out, if_neg (by omega), if_neg (by omega), if_pos rfl]; rw [decide_eq_false (fun h : d = 0 ∧ L s = [] => HS0.out h.2)]; rfl
    clear HE HSL
    go_wp2
    go_ret
    exact ⟨by first | rfl | exact ret_bool hR.symm, B1.out⟩
  ·have d1 : (d != 0) = true := by simpa using hd
   have d2 : (d == 0) = false := by simpa using hd
   have HD := Lib.hid hd
   clear hd
   have hR : R = false := by rw [HE.out, if_neg (by omega), if_neg (by omega), if_pos rfl]; simp [HD.out]
   clear HE HSL
   go_wp2
   go_ret
   exact ⟨by first | rfl | exact ret_bool hR.symm, B1.out⟩
 ·by_cases hd : d = 0
  ·have d1 : (d != 0) = false := by simpa using hd
   have d2 : (d == 0) = true := by simpa using hd
   have HD := Lib.hid hd
   clear hd
   by_cases hs0 : s.toList = []
   ·have f1 : (s.toList == []) = true := by simpa using hs0
    have f2 : (s.toList != []) = false := by simpa using hs0
    have f3 : s.toList.isEmpty = true := by simpa using hs0
    have HS0 := Lib.hid (HSL.out.symm.trans hs0)
    clear hs0
    by_cases hn : n = 0
    ·have g1 : (n == 0) = true := by simpa using hn
     have HN := Lib.hid hn
     clear hn
     have hR : R = true := by rw [HE.out, if_pos (by omega)]; exact decide_eq_true ⟨HD.out, HS0.out, HN.out⟩
     clear HE HSL
     go_wp2
     go_ret
     exact ⟨by first | rfl | exact ret_bool hR.symm, B1.out⟩
    ·have g1 : (n == 0) = false := by simpa using hn
     have HN := Lib.hid hn
     clear hn
     have hR : R = false := by rw [HE.out, if_pos (by omega)]; exact decide_eq_false (fun h => HN.out h.2.2)
     clear HE HSL
     go_wp2
     go_ret
     exact ⟨by first | rfl | exact ret_bool hR.symm, B1.out⟩
   ·have f1 : (s.toList == []) = false := by simpa using hs0
    have f2 : (s.toList != []) = true := by simpa using hs0
    have f3 : s.toList.isEmpty = false := by simpa using hs0
    have HS0 := Lib.hid (fun h : L s = [] => hs0 (HSL.out.trans h))
    clear hs0
    have hR : R = false := by rw [HE.out, if_pos (by omega)]; exact decide_eq_false (fun h => HS0.out h.2.1)
    clear HE HSL
    go_wp2
    go_ret
    exact ⟨by first | rfl | exact ret_bool hR.symm, B1.out⟩
  ·have d1 : (d != 0) = true := by simpa using hd
   have d2 : (d == 0) = false := by simpa using hd
   have HD := Lib.hid hd
   clear hd
   have hR : R = false := by rw [HE.out, if_pos (by omega)]; simp [HD.out]
   clear HE HSL
   go_wp2
   go_ret
   exact ⟨by first | rfl | exact ret_bool hR.symm, B1.out⟩
section
variable {B p ow cap : Nat} {A : Option Addr} {cs : List PC} {w : World}
theorem Two.set2 {w0 w : World} {x y x' y' : Int} {sa sb : ByteArray} (h : Two w0 x y sa sb w) (hq : w.heap[w0.heap.size]? = some (.cells #[.int .i64 x, .string sa] 31 (0, 0))) (hq2 : w.heap[w0.heap.size + 1]? = some (.cells #[.int .i64 y, .string sb] 31 (0, 0))) :
  Two w0 x' y' sa sb ((w.setCell ⟨w0.heap.size, 0, none⟩ (.int .i64 x')).setCell ⟨w0.heap.size + 1, 0, none⟩ (.int .i64 y')) ∧ ((w.setCell ⟨w0.heap.size, 0, none⟩ (.int .i64 x')).setCell ⟨w0.heap.size + 1, 0, none⟩ (.int .i64 y')).heap[w0.heap.size]? = some (.cells #[.int .i64 x', .string sa] 31 (0, 0)) ∧
   ((w.setCell ⟨w0.heap.size, 0, none⟩ (.int .i64 x')).setCell ⟨w0.heap.size + 1, 0, none⟩ (.int .i64 y')).heap[w0.heap.size + 1]? = some (.cells #[.int .i64 y', .string sb] 31 (0, 0)) := by
 have e1 : (w.setCell ⟨w0.heap.size, 0, none⟩ (.int .i64 x')).heap[w0.heap.size]? = some (.cells #[.int .i64 x', .string sa] 31 (0, 0)) := by rw [heap_set_eq hq]; rfl
 have e2 : (w.setCell ⟨w0.heap.size, 0, none⟩ (.int .i64 x')).heap[w0.heap.size + 1]? = some (.cells #[.int .i64 y, .string sb] 31 (0, 0)) := hheap_set_ne (a := ⟨w0.heap.size, 0, none⟩) (by show w0.heap.size + 1 ≠ w0.heap.size; omega) hq2
 have f1 : ((w.setCell ⟨w0.heap.size, 0, none⟩ (.int .i64 x')).setCell ⟨w0.heap.size + 1, 0, none⟩ (.int .i64 y')).heap[w0.heap.size]? = some (.cells #[.int .i64 x', .string sa] 31 (0, 0)) := hheap_set_ne (a := ⟨w0.heap.size + 1, 0, none⟩) (by show w0.heap.size ≠ w0.heap.size + 1; omega) e1
 have f2 : ((w.setCell ⟨w0.heap.size, 0, none⟩ (.int .i64 x')).setCell ⟨w0.heap.size + 1, 0, none⟩ (.int .i64 y')).heap[w0.heap.size + 1]? = some (.cells #[.int .i64 y', .string sb] 31 (0, 0)) := by rw [heap_set_eq e2]; rfl
 have hb := (h.below.setCell (p := ⟨w0.heap.size, 0, none⟩) (Nat.le_refl _) (.int .i64 x')).setCell (p := ⟨w0.heap.size + 1, 0, none⟩) (by show w0.heap.size ≤ w0.heap.size + 1; omega) (.int .i64 y')
 exact ⟨⟨kcells_of f1 0, kcells_of f1 1, kcells_of f2 0, kcells_of f2 1, hb, by have := h.sz; simp; omega⟩, f1, f2⟩
/-- The boxes of both types. -/
structure TwoB (w0 : World) (x y : Int) (sa sb : ByteArray) (w : World) : Prop where
 two : Two w0 x y sa sb w
 a : w.heap[w0.heap.size]? = some (.cells #[.int .i64 x, .string sa] 31 (0, 0))
 b : w.heap[w0.heap.size + 1]? = some (.cells #[.int .i64 y, .string sb] 31 (0, 0))
theorem TwoB.start (w : World) (da db : Int) (sa sb : ByteArray) : TwoB w da db sa sb ((w.alloc (.cells #[.int .i64 da, .string sa] 31)).alloc (.cells #[.int .i64 db, .string sb] 31)) :=
 ⟨Two.start w da db sa sb, hheap_alloc_lt (hheap_new w _), hheap_at _ _ _ (by simp)⟩
theorem TwoB.next {w0 w w' : World} {da db : Int} {sa sb : ByteArray} (h : TwoB w0 da db sa sb w) (hb : Below w.heap.size w w') : TwoB w0 da db sa sb w' := by
 exact ⟨h.two.next hb, (hb.block _ (lt_of_block h.a)).trans h.a, (hb.block _ (lt_of_block h.b)).trans h.b⟩
theorem TwoB.set {w0 w : World} {x y x' y' : Int} {sa sb : ByteArray} (h : TwoB w0 x y sa sb w) : TwoB w0 x' y' sa sb ((w.setCell ⟨w0.heap.size, 0, none⟩ (.int .i64 x')).setCell ⟨w0.heap.size + 1, 0, none⟩ (.int .i64 y')) := by
 obtain ⟨h1, h2, h3⟩ := h.two.set2 (x' := x') (y' := y') h.a h.b
 exact ⟨h1, h2, h3⟩
open Classical in
set_option maxRecDepth 1000000 in
set_option maxHeartbeats 12800000 in
theorem RSub_any (h : RT B p A cap cs ow w) (G : Good cs) (hN : NamesOk cs) (da db : Int) (sa sb : ByteArray) (hsa : sa.size ≤ 1000000) (hsb : sb.size ≤ 1000000) :
  Calls Tryz.prog 24 #[.pointer (some ⟨p, 0, none⟩), .agg #[.int .i64 da, .string sa], .agg #[.int .i64 db, .string sb]] w fun e w' => SubAns cs (da, sa.data.toList) (db, sb.data.toList) w w' e := by
 have KA := Lib.hid (fun W (hb : Below w.heap.size w W) b hh => RKnown_any (h.link hb) hN da sa hsa b hh)
 have KB := Lib.hid (fun W (hb : Below w.heap.size w W) b hh => RKnown_any (h.link hb) hN db sb hsb b hh)
 have AV := Lib.hid (fun W (hb : Below w.heap.size w W) i (hi : ix cs sa.data.toList = some i) => RAbove_any (h.link hb) G.lkd sa sb hsa hsb hi)
 have HNO := Lib.hid hN
 have TW := Lib.hid (TwoB.start w da db sa sb)
 clear h
 by_cases ha : hasT cs (da, sa.data.toList)
 ·have HA := Lib.hid ha
  by_cases hb : hasT cs (db, sb.data.toList)
  ·have HB := Lib.hid hb
   clear ha hb
   go_enter Tryz.func24, Tryz.ntmps24
   go_wp2_with fail
   refine (KA.out _ TW.out.two.below true (by simp [HA.out])).mono ?_
   rintro e w1 ⟨rfl, hb1⟩
   have TW1 := Lib.hid (TW.out.next hb1)
   clear hb1
   have e0 := TW1.out.two.b0
   have e1 := TW1.out.two.b1
   go_wp2_with fail
   refine (KB.out _ TW1.out.two.below true (by simp [HB.out])).mono ?_
   rintro e w2 ⟨rfl, hb2⟩
   have TW2 := Lib.hid (TW1.out.next hb2)
   clear hb2 e0 e1
   go_wp2
   go_loopg [] da.toNat (fun g wx => ∃ x y : Int, x.toNat = g ∧ hasT cs (x, sa.data.toList) ∧ hasT cs (y, sb.data.toList) ∧ TwoB w x y sa sb wx ∧ (SubT cs (da, sa.data.toList) (db, sb.data.toList) ↔ SubT cs (x, sa.data.toList) (y, sb.data.toList)))
   case atStart => exact ⟨da, db, rfl, HA.out, HB.out, TW2.out, Iff.rfl⟩
   case round =>
    obtain ⟨x, y, hg, hx, hy, htw, hiff⟩ := hrel
    have HX := Lib.hid hx
    have HY := Lib.hid hy
    have TW3 := Lib.hid htw
    have IFF := Lib.hid hiff
    have hx0 : 0 ≤ x := hx.1
    have hx4 : x ≤ 4 := hx.2.1
    have hy0 : 0 ≤ y := hy.1
    have hy4 : y ≤ 4 := hy.2.1
    have a0 := htw.two.a0
    have a1 := htw.two.a1
    have b0 := htw.two.b0
    have b1 := htw.two.b1
    have heq := eql31 x y sa sb
    have HST := Lib.hid (show sa = sb ↔ sa.data.toList = sb.data.toList from ⟨fun h => by rw [h], fun h => by cases sa; cases sb; simp only at h; congr 1; exact Array.toList_inj.1 h⟩)
    clear hx hy htw hiff
    by_cases hxy : x = y ∧ sa = sb
    ·have HE := Lib.hid hxy
     have e1 : decide (x = y ∧ sa = sb) = true := decide_eq_true hxy
     clear hxy
     go_wp2
     go_ret
     refine ⟨true, rfl, ⟨fun _ => ?_, fun _ => rfl⟩, TW3.out.two.below⟩
     rw [IFF.out, HE.out.1, ← HE.out.2]
     have := HX.out
     rw [HE.out.1] at this
     exact sub_eq G this
    ·have e1 : decide (x = y ∧ sa = sb) = false := decide_eq_false hxy
     have HNE := Lib.hid (show (x, sa.data.toList) ≠ (y, sb.data.toList) from fun h => hxy (by injection h with h1 h2; exact ⟨h1, HST.out.2 h2⟩))
     clear hxy
     have RA := Lib.hid (fun W => RIsRef_any x sa W hsa)
     have RB := Lib.hid (fun W => RIsRef_any y sb W hsb)
     have ra := Lib.hid (refT_has HX.out HNO.out)
     have rb := Lib.hid (refT_has HY.out HNO.out)
     generalize refT x (L sa) = qa at *
     generalize refT y (L sb) = qb at *
     go_wp2_with fail
     refine (RA.out _).mono ?_
     rintro e w3 ⟨rfl, hb3⟩
     have TW4 := Lib.hid (TW3.out.next hb3)
     clear hb3 a0 a1 b0 b1
     have b0 := TW4.out.two.b0
     have b1 := TW4.out.two.b1
     go_wp2_with fail
     refine (RB.out _).mono ?_
     rintro e w4 ⟨rfl, hb4⟩
     have TW5 := Lib.hid (TW4.out.next hb4)
     clear hb4 b0 b1 heq
     have a0 := TW5.out.two.a0
     have a1 := TW5.out.two.a1
     have b0 := TW5.out.two.b0
     have b1 := TW5.out.two.b1
     cases qa with
     | false =>
      go_wp2
      go_ret
      refine ⟨false, rfl, ⟨(fun h => by cases h), fun h => absurd (IFF.out.1 h) (sub_int G HX.out HY.out HNE.out (.inl ?_))⟩, TW5.out.two.below⟩
      simpa using ra.out
     | true =>
      have NA := Lib.hid (show (x, sa.data.toList) ≠ intT by simpa using ra.out)
      cases qb with
      | false =>
       go_wp2
       go_ret
       refine ⟨false, rfl, ⟨(fun h => by cases h), fun h => absurd (IFF.out.1 h) (sub_int G HX.out HY.out HNE.out (.inr ?_))⟩, TW5.out.two.below⟩
       simpa using rb.out
      | true =>
       have NB := Lib.hid (show (y, sb.data.toList) ≠ intT by simpa using rb.out)
       clear ra rb
       by_cases hob : y = 0 ∧ sb.toList = [79, 98, 106, 101, 99, 116]
       ·have f1 : (y == 0) = true := by simpa using hob.1
        have f2 : (sb.toList == [79, 98, 106, 101, 99, 116]) = true := by simpa using hob.2
        have HO := Lib.hid hob
        clear hob
        go_wp2
        go_ret
        refine ⟨true, rfl, ⟨fun _ => IFF.out.2 ?_, fun _ => rfl⟩, TW5.out.two.below⟩
        have hsb0 : sb.data.toList = [79, 98, 106, 101, 99, 116] := by rw [← Lib.toList_data]; exact HO.out.2
        rw [HO.out.1, hsb0]
        exact sub_obj G HX.out NA.out
       ·have HO := Lib.hid (show (y, sb.data.toList) ≠ objT from fun h => hob (by injection h with h1 h2; exact ⟨h1, by rw [Lib.toList_data]; exact h2⟩))
        have HOB := Lib.hid hob
        clear hob
        by_cases hy : y = 0
        ·subst hy
         have f1 : ((0 : Int) == 0) = true := rfl
         have f2 : (sb.toList == [79, 98, 106, 101, 99, 116]) = false := by
          have := HOB.out
          simpa using this
         by_cases hx : x = 0
         ·subst hx
          obtain ⟨i, hi⟩ : ∃ i, ix cs sa.data.toList = some i := by
           cases hh : ix cs sa.data.toList with
           | none =>
            have h1 := HX.out.2.2
            rcases h1 with h1 | h1
            ·exact absurd (by show ((0 : Int), sa.data.toList) = (0, []); rw [show sa.data.toList = [] from h1]) NA.out
            ·exact absurd hh h1
           | some i => exact ⟨i, rfl⟩
          have HI := Lib.hid hi
          clear hi
          go_wp2_with fail
          refine (AV.out _ TW5.out.two.below i HI.out).mono ?_
          rintro e w5 ⟨⟨r, rfl, hr⟩, hb5⟩
          have HR := Lib.hid hr
          have TW6 := Lib.hid (TW5.out.next hb5)
          clear hr hb5
          go_wp2
          go_ret
          refine ⟨r, rfl, ?_, TW6.out.two.below⟩
          rw [IFF.out, sub_class G HX.out HY.out rfl rfl HNE.out NA.out NB.out, HR.out]
          constructor
          ·rintro ⟨j, h1, h2⟩
           exact ⟨i, j, HI.out, h1, h2⟩
          ·rintro ⟨i', j, h1, h2, h3⟩
           have h4 := HI.out
           rw [show ix cs sa.data.toList = some i' from h1] at h4
           cases h4
           exact ⟨j, h2, h3⟩
         ·have f3 : (x == 0) = false := by simpa using hx
          have HXN := Lib.hid hx
          clear hx
          go_wp2
          go_ret
          refine ⟨false, rfl, ⟨(fun h => by cases h), fun h => absurd (IFF.out.1 h) (sub_mixed G HX.out HY.out HO.out (fun h => by have := h.2; simp at this) (fun h => HXN.out h.1))⟩, TW5.out.two.below⟩
        ·have f1 : (y == 0) = false := by simpa using hy
         have HYN := Lib.hid hy
         clear hy
         by_cases hx : x = 0
         ·subst hx
          have f3 : ((0 : Int) == 0) = true := rfl
          go_wp2
          go_ret
          refine ⟨false, rfl, ⟨(fun h => by cases h), fun h => absurd (IFF.out.1 h) (sub_mixed G HX.out HY.out HO.out (fun h => by have := h.1; simp at this) (fun h => HYN.out h.2))⟩, TW5.out.two.below⟩
         ·have f3 : (x == 0) = false := by simpa using hx
          have HXN := Lib.hid hx
          have hx1 : 1 ≤ x := by omega
          have hy1 : 1 ≤ y := by have := HYN.out; omega
          clear hx
          have qa := TW5.out.a
          have qb := TW5.out.b
          have fa := kfree_of qa
          have fb := kfree_of qb
          have hne : w.heap.size + 1 ≠ w.heap.size := by omega
          clear qa qb
          go_wp2
          go_roundg (gk - 1)
          case measure => omega
          case rel =>
           have hw1 : IntKind.i64.wrap (x - 1) = x - 1 := IntWalk.i64_in _ (by omega)
           have hw2 : IntKind.i64.wrap (y - 1) = y - 1 := IntWalk.i64_in _ (by omega)
           have sx : hasT cs (x - 1, sa.data.toList) := ⟨by show 0 ≤ x - 1; omega, by show x - 1 ≤ 4; omega, HX.out.2.2⟩
           have sy : hasT cs (y - 1, sb.data.toList) := ⟨by show 0 ≤ y - 1; omega, by show y - 1 ≤ 4; omega, HY.out.2.2⟩
           refine ⟨x - 1, y - 1, by omega, sx, sy, ?_, IFF.out.trans (sub_elem G HX.out HY.out (by show 0 < x; omega) (by show 0 < y; omega))⟩
           first
            | exact TW5.out.set
            | (have := TW5.out.set (x' := x - 1) (y' := y - 1); rw [← hw1, ← hw2] at this; exact this)
  ·go_enter Tryz.func24, Tryz.ntmps24
   go_wp2_with fail
   refine (KA.out _ TW.out.two.below true (by simp [HA.out])).mono ?_
   rintro e w1 ⟨rfl, hb1⟩
   have TW1 := Lib.hid (TW.out.next hb1)
   have HB := Lib.hid hb
   clear hb1 hb
   have e0 := TW1.out.two.b0
   have e1 := TW1.out.two.b1
   go_wp2_with fail
   refine (KB.out _ TW1.out.two.below false (by simp [HB.out])).mono ?_
   rintro e w2 ⟨rfl, hb2⟩
   have TW2 := Lib.hid (TW1.out.next hb2)
   clear hb2
   go_wp2
   go_ret
   exact ⟨false, rfl, ⟨(fun h => by cases h), fun h => absurd h.2.1 HB.out⟩, TW2.out.two.below⟩
 ·have HA := Lib.hid ha
  clear ha
  have KB2 := Lib.hid (fun W hb => KB.out W hb (decide (hasT cs (db, sb.data.toList))) (by simp))
  go_enter Tryz.func24, Tryz.ntmps24
  go_wp2_with fail
  refine (KA.out _ TW.out.two.below false (by simp [HA.out])).mono ?_
  rintro e w1 ⟨rfl, hb1⟩
  have TW1 := Lib.hid (TW.out.next hb1)
  clear hb1
  have e0 := TW1.out.two.b0
  have e1 := TW1.out.two.b1
  go_wp2_with fail
  refine (KB2.out _ TW1.out.two.below).mono ?_
  rintro e w2 ⟨rfl, hb2⟩
  have TW2 := Lib.hid (TW1.out.next hb2)
  clear hb2
  go_wp2
  go_ret
  exact ⟨false, rfl, ⟨(fun h => by cases h), fun h => absurd h.1 HA.out⟩, TW2.out.two.below⟩
end
end Go.Proofs.YtmaknddlgppinaaGreatDoor
