/-
  CUT and joined from the texts of this seat: Rf Rg
-/
import Derived.Test.YtmaknddlgppinaaGreatDoorY40
import Derived.Test.YtmaknddlgppinaaGreatDoorY29
import Derived.Test.YtmaknddlgppinaaGreatDoorY14
set_option linter.unusedVariables false
set_option linter.unusedSimpArgs false
namespace Go.Proofs.YtmaknddlgppinaaGreatDoor
open Go.RowKit
/-- A type is right. -/
def rightT (d : Int) (s : List UInt8) : Bool := decide (0 ≤ d) && (decide (d ≤ 4) && (decide (s = []) || nameL s))
/-- .. and none of int. -/
def refT (d : Int) (s : List UInt8) : Bool := rightT d s && (decide (0 < d) || decide (s ≠ []))
/-- The names of a table are right. -/
def NamesOk (cs : List PC) : Prop := ∀ c ∈ cs, nameL c.name = true
set_option maxRecDepth 1000000 in
set_option maxHeartbeats 3200000 in
theorem RRight_any (d : Int) (s : ByteArray) (w : World) (hs : s.size ≤ 1000000) :
  Calls Tryz.prog 101 #[.agg #[.int .i64 d, .string s]] w fun e w' => e = .returned (.bool (rightT d (L s))) ∧ Below w.heap.size w w' := by
 have N := Lib.hid (refName_any s (w.alloc (.cells #[.int .i64 d, .string s] 31)) hs)
 have HE := Lib.hid (show rightT d (L s) = (decide (0 ≤ d) && (decide (d ≤ 4) && (decide (L s = []) || nameL (L s)))) from rfl)
 have hsl : s.toList = L s := Lib.toList_data s
 have HSL := Lib.hid hsl
 generalize nameL (L s) = q at *
 generalize rightT d (L s) = R at *
 clear hsl
 go_enter Tryz.func101, Tryz.ntmps101
 go_wp2_with fail
 refine N.out.mono ?_
 rintro e w1 ⟨rfl, hb⟩
 have B1 := Lib.hid (((Below.refl w.heap.size w).alloc (Nat.le_refl _) (.cells #[.int .i64 d, .string s] 31)).trans (hb.mono (by simp)))
 have k := kcells_of ((hb.block w.heap.size (by simp)).trans (hheap_new w (.cells #[.int .i64 d, .string s] 31)))
 have k0 := k 0
 have k1 := k 1
 simp only [List.getElem?_toArray, List.getElem?_cons_succ, List.getElem?_cons_zero] at k0 k1
 clear hb k
 by_cases h1 : 0 ≤ d
 ·have e1 : decide (0 ≤ d) = true := decide_eq_true h1
  by_cases h2 : d ≤ 4
  ·have e2 : decide (d ≤ 4) = true := decide_eq_true h2
   by_cases h3 : s.toList = []
   ·have e3 : (s.toList == []) = true := by simpa using h3
    have e5 : s.toList.isEmpty = true := by simpa using h3
    have e6 : (!s.toList.isEmpty) = false := by simpa using h3
    have H3 := Lib.hid h3
    clear h3
    go_wp2
    go_ret
    exact ⟨ret_b (by rw [HE.out, e1, e2, ← HSL.out, H3.out]; rfl), B1.out⟩
   ·have e3 : (s.toList == []) = false := by simpa using h3
    have e5 : s.toList.isEmpty = false := by simpa using h3
    have e6 : (!s.toList.isEmpty) = true := by simpa using h3
    have H3 := Lib.hid h3
    clear h3
    go_wp2
    go_ret
    exact ⟨ret_b (by rw [HE.out, e1, e2, ← HSL.out, decide_eq_false H3.out]; rfl), B1.out⟩
  ·have e2 : decide (d ≤ 4) = false := decide_eq_false h2
   go_wp2
   go_ret
   exact ⟨ret_b (by rw [HE.out, e1, e2]; rfl), B1.out⟩
 ·have e1 : decide (0 ≤ d) = false := decide_eq_false h1
  go_wp2
  go_ret
  exact ⟨ret_b (by rw [HE.out, e1]; rfl), B1.out⟩
set_option maxRecDepth 1000000 in
set_option maxHeartbeats 3200000 in
theorem RIsRef_any (d : Int) (s : ByteArray) (w : World) (hs : s.size ≤ 1000000) :
  Calls Tryz.prog 71 #[.agg #[.int .i64 d, .string s]] w fun e w' => e = .returned (.bool (refT d (L s))) ∧ Below w.heap.size w w' := by
 have N := Lib.hid (RRight_any d s (w.alloc (.cells #[.int .i64 d, .string s] 31)) hs)
 have HE := Lib.hid (show refT d (L s) = (rightT d (L s) && (decide (0 < d) || decide (L s ≠ []))) from rfl)
 have HSL := Lib.hid (show s.toList = L s from Lib.toList_data s)
 generalize rightT d (L s) = q at *
 generalize refT d (L s) = R at *
 go_enter Tryz.func71, Tryz.ntmps71
 go_wp2_with fail
 refine N.out.mono ?_
 rintro e w1 ⟨rfl, hb⟩
 have B1 := Lib.hid (((Below.refl w.heap.size w).alloc (Nat.le_refl _) (.cells #[.int .i64 d, .string s] 31)).trans (hb.mono (by simp)))
 have k := kcells_of ((hb.block w.heap.size (by simp)).trans (hheap_new w (.cells #[.int .i64 d, .string s] 31)))
 have k0 := k 0
 have k1 := k 1
 simp only [List.getElem?_toArray, List.getElem?_cons_succ, List.getElem?_cons_zero] at k0 k1
 clear hb k
 cases q with
 | false =>
  go_wp2
  go_ret
  exact ⟨ret_b (by rw [HE.out]; rfl), B1.out⟩
 | true =>
  by_cases h1 : 0 < d
  ·have e1 : decide (0 < d) = true := decide_eq_true h1
   go_wp2
   go_ret
   exact ⟨ret_b (by rw [HE.out, e1]; rfl), B1.out⟩
  ·have e1 : decide (0 < d) = false := decide_eq_false h1
   by_cases h3 : s.toList = []
   ·have e3 : (s.toList == []) = true := by simpa using h3
    have e5 : s.toList.isEmpty = true := by simpa using h3
    have e6 : (!s.toList.isEmpty) = false := by simpa using h3
    have e4 : (s.toList != []) = false := by simpa using h3
    have H3 := Lib.hid h3
    clear h3
    go_wp2
    go_ret
    exact ⟨ret_b (by rw [HE.out, e1, ← HSL.out, H3.out]; rfl), B1.out⟩
   ·have e3 : (s.toList == []) = false := by simpa using h3
    have e5 : s.toList.isEmpty = false := by simpa using h3
    have e6 : (!s.toList.isEmpty) = true := by simpa using h3
    have e4 : (s.toList != []) = true := by simpa using h3
    have H3 := Lib.hid h3
    clear h3
    go_wp2
    go_ret
    exact ⟨ret_b (by rw [HE.out, e1, ← HSL.out, decide_eq_true H3.out]; rfl), B1.out⟩
section
variable {B p ow cap : Nat} {A : Option Addr} {cs : List PC} {w : World}
theorem has_right (hN : NamesOk cs) {d : Int} {s : ByteArray} : hasT cs (d, s.data.toList) ↔ rightT d (L s) = true ∧ (L s = [] ∨ (ix cs s.data.toList).isSome = true) := by
 have e : L s = s.data.toList := rfl
 unfold hasT rightT
 rw [e]
 simp only [Bool.and_eq_true, Bool.or_eq_true, decide_eq_true_eq, Option.isSome_iff_ne_none]
 constructor
 ·rintro ⟨h1, h2, h3⟩
  refine ⟨⟨h1, h2, ?_⟩, h3⟩
  rcases h3 with h3 | h3
  ·exact .inl h3
  ·right
   cases hx : ix cs s.data.toList with
   | none => exact absurd hx h3
   | some i =>
    obtain ⟨c, hc, e⟩ := ix_some hx
    rw [← e]
    exact hN c (List.mem_of_getElem? hc)
 ·rintro ⟨⟨h1, h2, _⟩, h3⟩
  exact ⟨h1, h2, h3⟩
theorem refT_has {d : Int} {s : ByteArray} (h : hasT cs (d, s.data.toList)) (hN : NamesOk cs) : refT d (L s) = decide ((d, s.data.toList) ≠ intT) := by
 have e : L s = s.data.toList := rfl
 have h2 := ((has_right hN).1 h).1
 unfold refT
 rw [h2, e, Bool.true_and]
 have h0 : (0 : Int) ≤ d := h.1
 rw [Bool.eq_iff_iff]
 simp only [Bool.or_eq_true, decide_eq_true_eq, intT, ne_eq, Prod.mk.injEq]
 constructor
 ·rintro (h | h) ⟨h1, h2⟩
  ·omega
  ·exact h h2
 ·intro h
  by_cases hd : 0 < d
  ·exact .inl hd
  ·exact .inr fun hs => h ⟨by omega, hs⟩
set_option maxRecDepth 1000000 in
set_option maxHeartbeats 3200000 in
theorem RKnown_any (h : RT B p A cap cs ow w) (hN : NamesOk cs) (d : Int) (s : ByteArray) (hs : s.size ≤ 1000000) (b : Bool) (hb : b = true ↔ hasT cs (d, s.data.toList)) :
  Calls Tryz.prog 70 #[.pointer (some ⟨p, 0, none⟩), .agg #[.int .i64 d, .string s]] w fun e w' => e = .returned (.bool b) ∧ Below w.heap.size w w' := by
 have N := Lib.hid (RRight_any d s (w.alloc (.cells #[.int .i64 d, .string s] 31)) hs)
 have HS := Lib.hid (fun W (hb : Below w.heap.size w W) => Rhas_any (h.link hb) s hs)
 have HE := Lib.hid (show b = (rightT d (L s) && (decide (L s = []) || (ix cs s.data.toList).isSome)) by
  rw [Bool.eq_iff_iff, hb, has_right hN]
  simp)
 have HSL := Lib.hid (show s.toList = L s from Lib.toList_data s)
 generalize rightT d (L s) = q at *
 generalize (ix cs s.data.toList).isSome = x at *
 clear h hN hb
 go_enter Tryz.func70, Tryz.ntmps70
 go_wp2_with fail
 refine N.out.mono ?_
 rintro e w1 ⟨rfl, hb⟩
 have B1 := Lib.hid (((Below.refl w.heap.size w).alloc (Nat.le_refl _) (.cells #[.int .i64 d, .string s] 31)).trans (hb.mono (by simp)))
 have HK := Lib.hid ((hb.block w.heap.size (by simp)).trans (hheap_new w (.cells #[.int .i64 d, .string s] 31)))
 have k1 : w1.cell? ⟨w.heap.size, 1, none⟩ = some (.string s) := kcells_of HK.out 1
 clear hb
 go_wp2_with fail
 refine (HS.out _ B1.out).mono ?_
 rintro e w2 ⟨rfl, hb⟩
 have B2 := Lib.hid (B1.out.trans (hb.mono B1.out.size))
 have k2 : w2.cell? ⟨w.heap.size, 1, none⟩ = some (.string s) := kcells_of ((hb.block _ (lt_of_block HK.out)).trans HK.out) 1
 clear hb k1
 cases q with
 | false =>
  go_wp2
  go_ret
  exact ⟨ret_b (by rw [HE.out]; rfl), B2.out⟩
 | true =>
  by_cases h3 : s.toList = []
  ·have e3 : (s.toList == []) = true := by simpa using h3
   have e5 : s.toList.isEmpty = true := by simpa using h3
   have e6 : (!s.toList.isEmpty) = false := by simpa using h3
   have H3 := Lib.hid h3
   clear h3
   go_wp2
   go_ret
   exact ⟨ret_b (by rw [HE.out, ← HSL.out, H3.out]; rfl), B2.out⟩
  ·have e3 : (s.toList == []) = false := by simpa using h3
   have e5 : s.toList.isEmpty = false := by simpa using h3
   have e6 : (!s.toList.isEmpty) = true := by simpa using h3
   have H3 := Lib.hid h3
   clear h3
   go_wp2
   go_ret
   exact ⟨ret_b (by rw [HE.out, ← HSL.out, decide_eq_false H3.out]; rfl), B2.out⟩
end
section
variable {B p ow cap : Nat} {A : Option Addr} {cs : List PC} {w : World}
theorem Two.set2 {w0 w : World} {x y x' y' : Int} {sa sb : ByteArray} (h : Two w0 x y sa sb w) (hq : w.heap[w0.heap.size]? = some (.cells #[.int .i64 x, .string sa] 31 (0, 0))) (hq2 : w.heap[w0.heap.size + 1]? = some (.cells #[.int .i64 y, .string sb] 31 (0, 0))) :
  Two w0 x' y' sa sb ((w.setCell ⟨w0.heap.size, 0, none⟩ (.int .i64 x')).setCell ⟨w0.heap.size + 1, 0, none⟩ (.int .i64 y')) ∧ ((w.setCell ⟨w0.heap.size, 0, none⟩ (.int .i64 x')).setCell ⟨w0.heap.size + 1, 0, none⟩ (.int .i64 y')).heap[w0.heap.size]? = some (.cells #[.int .i64 x', .string sa] 31 (0, 0)) ∧
   ((w.setCell ⟨w0.heap.size, 0, none⟩ (.int .i64 x')).setCell ⟨w0.heap.size + 1, 0, none⟩ (.int .i64 y')).heap[w0.heap.size + 1]? = some (.cells #[.int .i64 y', .string sb] 31 (0, 0)) := by
 have e1 : (w.setCell ⟨w0.heap.size, 0, none⟩ (.int .i64 x')).heap[w0.heap.size]? = some (.cells #[.int .i64 x', .string sa] 31 (0, 0)) := by rw [heap_set_eq hq]; rfl
 have e2 : (w.setCell ⟨w0.heap.size, 0, none⟩ (.int .i64 x')).heap[w0.heap.size + 1]? = some (.cells #[.int .i64 y, .string sb] 31 (0, 0)) := hheap_set_ne (a := ⟨w0.heap.size, 0, none⟩) (by show w0.heap.size + 1 ≠ w0.heap.size; omega) hq2
 have f1 : ((w.setCell ⟨w0.heap.size, 0, none⟩ (.int .i64 x')).setCell ⟨w0.heap.size + 1, 0, none⟩ (.int .i64 y')).heap[w0.heap.size]? = some (.cells #[.int .i64 x', .string sa] 31 (0, 0)) := hheap_set_ne (a := ⟨w0.heap.size + 1, 0, none⟩) (by show w0.heap.size ≠ w0.heap.size + 1; omega) e1
 have f2 : ((w.setCell ⟨w0.heap.size, 0, none⟩ (.int .i64 x')).setCell ⟨w0.heap.size + 1, 0, none⟩ (.int .i64 y')).heap[w0.heap.size + 1]? = some (.cells #[.int .i64 y', .string sb] 31 (0, 0)) := by rw [heap_set_eq e2]; rfl
 have hb := (h.below.setCell (p := ⟨w0.heap.size, 0, none⟩) (Nat.le_refl _) (.int .i64 x')).setCell (p := ⟨w0.heap.size + 1, 0, none⟩) (by show w0.heap.size ≤ w0.heap.size + 1; omega) (.int .i64 y')
 exact ⟨⟨kcells_of f1 0, kcells_of f1 1, kcells_of f2 0, kcells_of f2 1, hb, by have := h.sz; simp; omega⟩, f1, f2⟩
/-- The boxes of both types. -/
structure TwoB (w0 : World) (x y : Int) (sa sb : ByteArray) (w : World) : Prop where
 two : Two w0 x y sa sb w
 a : w.heap[w0.heap.size]? = some (.cells #[.int .i64 x, .string sa] 31 (0, 0))
 b : w.heap[w0.heap.size + 1]? = some (.cells #[.int .i64 y, .string sb] 31 (0, 0))
theorem TwoB.start (w : World) (da db : Int) (sa sb : ByteArray) : TwoB w da db sa sb ((w.alloc (.cells #[.int .i64 da, .string sa] 31)).alloc (.cells #[.int .i64 db, .string sb] 31)) :=
 ⟨Two.start w da db sa sb, hheap_alloc_lt (hheap_new w _), hheap_at _ _ _ (by simp)⟩
theorem TwoB.next {w0 w w' : World} {da db : Int} {sa sb : ByteArray} (h : TwoB w0 da db sa sb w) (hb : Below w.heap.size w w') : TwoB w0 da db sa sb w' := by
 exact ⟨h.two.next hb, (hb.block _ (lt_of_block h.a)).trans h.a, (hb.block _ (lt_of_block h.b)).trans h.b⟩
theorem TwoB.set {w0 w : World} {x y x' y' : Int} {sa sb : ByteArray} (h : TwoB w0 x y sa sb w) : TwoB w0 x' y' sa sb ((w.setCell ⟨w0.heap.size, 0, none⟩ (.int .i64 x')).setCell ⟨w0.heap.size + 1, 0, none⟩ (.int .i64 y')) := by
 obtain ⟨h1, h2, h3⟩ := h.two.set2 (x' := x') (y' := y') h.a h.b
 exact ⟨h1, h2, h3⟩
open Classical in
set_option maxRecDepth 1000000 in
set_option maxHeartbeats 12800000 in
theorem RSub_any (h : RT B p A cap cs ow w) (G : Good cs) (hN : NamesOk cs) (da db : Int) (sa sb : ByteArray) (hsa : sa.size ≤ 1000000) (hsb : sb.size ≤ 1000000) :
  Calls Tryz.prog 24 #[.pointer (some ⟨p, 0, none⟩), .agg #[.int .i64 da, .string sa], .agg #[.int .i64 db, .string sb]] w fun e w' => SubAns cs (da, sa.data.toList) (db, sb.data.toList) w w' e := by
 have KA := Lib.hid (fun W (hb : Below w.heap.size w W) b hh => RKnown_any (h.link hb) hN da sa hsa b hh)
 have KB := Lib.hid (fun W (hb : Below w.heap.size w W) b hh => RKnown_any (h.link hb) hN db sb hsb b hh)
 have AV := Lib.hid (fun W (hb : Below w.heap.size w W) i (hi : ix cs sa.data.toList = some i) => RAbove_any (h.link hb) G.lkd sa sb hsa hsb hi)
 have HNO := Lib.hid hN
 have TW := Lib.hid (TwoB.start w da db sa sb)
 clear h
 by_cases ha : hasT cs (da, sa.data.toList)
 ·have HA := Lib.hid ha
  by_cases hb : hasT cs (db, sb.data.toList)
  ·have HB := Lib.hid hb
   clear ha hb
   go_enter Tryz.func24, Tryz.ntmps24
   go_wp2_with fail
   refine (KA.out _ TW.out.two.below true (by simp [HA.out])).mono ?_
   rintro e w1 ⟨rfl, hb1⟩
   have TW1 := Lib.hid (TW.out.next hb1)
   clear hb1
   have e0 := TW1.out.two.b0
   have e1 := TW1.out.two.b1
   go_wp2_with fail
   refine (KB.out _ TW1.out.two.below true (by simp [HB.out])).mono ?_
   rintro e w2 ⟨rfl, hb2⟩
   have TW2 := Lib.hid (TW1.out.next hb2)
   clear hb2 e0 e1
   go_wp2
   go_loopg [] da.toNat (fun g wx => ∃ x y : Int, x.toNat = g ∧ hasT cs (x, sa.data.toList) ∧ hasT cs (y, sb.data.toList) ∧ TwoB w x y sa sb wx ∧ (SubT cs (da, sa.data.toList) (db, sb.data.toList) ↔ SubT cs (x, sa.data.toList) (y, sb.data.toList)))
   case atStart => exact ⟨da, db, rfl, HA.out, HB.out, TW2.out, Iff.rfl⟩
   case round =>
    obtain ⟨x, y, hg, hx, hy, htw, hiff⟩ := hrel
    have HX := Lib.hid hx
    have HY := Lib.hid hy
    have TW3 := Lib.hid htw
    have IFF := Lib.hid hiff
    have hx0 : 0 ≤ x := hx.1
    have hx4 : x ≤ 4 := hx.2.1
    have hy0 : 0 ≤ y := hy.1
    have hy4 : y ≤ 4 := hy.2.1
    have a0 := htw.two.a0
    have a1 := htw.two.a1
    have b0 := htw.two.b0
    have b1 := htw.two.b1
    have heq := eql31 x y sa sb
    have HST := Lib.hid (show sa = sb ↔ sa.data.toList = sb.data.toList from ⟨fun h => by rw [h], fun h => by cases sa; cases sb; simp only at h; congr 1; exact Array.toList_inj.1 h⟩)
    clear hx hy htw hiff
    by_cases hxy : x = y ∧ sa = sb
    ·have HE := Lib.hid hxy
     have e1 : decide (x = y ∧ sa = sb) = true := decide_eq_true hxy
     clear hxy
     go_wp2
     go_ret
     refine ⟨true, rfl, ⟨fun _ => ?_, fun _ => rfl⟩, TW3.out.two.below⟩
     rw [IFF.out, HE.out.1, ← HE.out.2]
     have := HX.out
     rw [HE.out.1] at this
     exact sub_eq G this
    ·have e1 : decide (x = y ∧ sa = sb) = false := decide_eq_false hxy
     have HNE := Lib.hid (show (x, sa.data.toList) ≠ (y, sb.data.toList) from fun h => hxy (by injection h with h1 h2; exact ⟨h1, HST.out.2 h2⟩))
     clear hxy
     have RA := Lib.hid (fun W => RIsRef_any x sa W hsa)
     have RB := Lib.hid (fun W => RIsRef_any y sb W hsb)
     have ra := Lib.hid (refT_has HX.out HNO.out)
     have rb := Lib.hid (refT_has HY.out HNO.out)
     generalize refT x (L sa) = qa at *
     generalize refT y (L sb) = qb at *
     go_wp2_with fail
     refine (RA.out _).mono ?_
     rintro e w3 ⟨rfl, hb3⟩
     have TW4 := Lib.hid (TW3.out.next hb3)
     clear hb3 a0 a1 b0 b1
     have b0 := TW4.out.two.b0
     have b1 := TW4.out.two.b1
     go_wp2_with fail
     refine (RB.out _).mono ?_
     rintro e w4 ⟨rfl, hb4⟩
     have TW5 := Lib.hid (TW4.out.next hb4)
     clear hb4 b0 b1 heq
     have a0 := TW5.out.two.a0
     have a1 := TW5.out.two.a1
     have b0 := TW5.out.two.b0
     have b1 := TW5.out.two.b1
     cases qa with
     | false =>
      go_wp2
      go_ret
      refine ⟨false, rfl, ⟨(fun h => by cases h), fun h => absurd (IFF.out.1 h) (sub_int G HX.out HY.out HNE.out (.inl ?_))⟩, TW5.out.two.below⟩
      simpa using ra.out
     | true =>
      have NA := Lib.hid (show (x, sa.data.toList) ≠ intT by simpa using ra.out)
      cases qb with
      | false =>
       go_wp2
       go_ret
       refine ⟨false, rfl, ⟨(fun h => by cases h), fun h => absurd (IFF.out.1 h) (sub_int G HX.out HY.out HNE.out (.inr ?_))⟩, TW5.out.two.below⟩
       simpa using rb.out
      | true =>
       have NB := Lib.hid (show (y, sb.data.toList) ≠ intT by simpa using rb.out)
       clear ra rb
       by_cases hob : y = 0 ∧ sb.toList = [79, 98, 106, 101, 99, 116]
       ·have f1 : (y == 0) = true := by simpa using hob.1
        have f2 : (sb.toList == [79, 98, 106, 101, 99, 116]) = true := by simpa using hob.2
        have HO := Lib.hid hob
        clear hob
        go_wp2
        go_ret
        refine ⟨true, rfl, ⟨fun _ => IFF.out.2 ?_, fun _ => rfl⟩, TW5.out.two.below⟩
        have hsb0 : sb.data.toList = [79, 98, 106, 101, 99, 116] := by rw [← Lib.toList_data]; exact HO.out.2
        rw [HO.out.1, hsb0]
        exact sub_obj G HX.out NA.out
       ·have HO := Lib.hid (show (y, sb.data.toList) ≠ objT from fun h => hob (by injection h with h1 h2; exact ⟨h1, by rw [Lib.toList_data]; exact h2⟩))
        have HOB := Lib.hid hob
        clear hob
        by_cases hy : y = 0
        ·subst hy
         have f1 : ((0 : Int) == 0) = true := rfl
         have f2 : (sb.toList == [79, 98, 106, 101, 99, 116]) = false := by
          have := HOB.out
          simpa using this
         by_cases hx : x = 0
         ·subst hx
          obtain ⟨i, hi⟩ : ∃ i, ix cs sa.data.toList = some i := by
           cases hh : ix cs sa.data.toList with
           | none =>
            have h1 := HX.out.2.2
            rcases h1 with h1 | h1
            ·exact absurd (by show ((0 : Int), sa.data.toList) = (0, []); rw [show sa.data.toList = [] from h1]) NA.out
            ·exact absurd hh h1
           | some i => exact ⟨i, rfl⟩
          have HI := Lib.hid hi
          clear hi
          go_wp2_with fail
          refine (AV.out _ TW5.out.two.below i HI.out).mono ?_
          rintro e w5 ⟨⟨r, rfl, hr⟩, hb5⟩
          have HR := Lib.hid hr
          have TW6 := Lib.hid (TW5.out.next hb5)
          clear hr hb5
          go_wp2
          go_ret
          refine ⟨r, rfl, ?_, TW6.out.two.below⟩
          rw [IFF.out, sub_class G HX.out HY.out rfl rfl HNE.out NA.out NB.out, HR.out]
          constructor
          ·rintro ⟨j, h1, h2⟩
           exact ⟨i, j, HI.out, h1, h2⟩
          ·rintro ⟨i', j, h1, h2, h3⟩
           have h4 := HI.out
           rw [show ix cs sa.data.toList = some i' from h1] at h4
           cases h4
           exact ⟨j, h2, h3⟩
         ·have f3 : (x == 0) = false := by simpa using hx
          have HXN := Lib.hid hx
          clear hx
          go_wp2
          go_ret
          refine ⟨false, rfl, ⟨(fun h => by cases h), fun h => absurd (IFF.out.1 h) (sub_mixed G HX.out HY.out HO.out (fun h => by have := h.2; simp at this) (fun h => HXN.out h.1))⟩, TW5.out.two.below⟩
        ·have f1 : (y == 0) = false := by simpa using hy
         have HYN := Lib.hid hy
         clear hy
         by_cases hx : x = 0
         ·subst hx
          have f3 : ((0 : Int) == 0) = true := rfl
          go_wp2
          go_ret
          refine ⟨false, rfl, ⟨(fun h => by cases h), fun h => absurd (IFF.out.1 h) (sub_mixed G HX.out HY.out HO.out (fun h => by have := h.1; simp at this) (fun h => HYN.out h.2))⟩, TW5.out.two.below⟩
         ·have f3 : (x == 0) = false := by simpa using hx
          have HXN := Lib.hid hx
          have hx1 : 1 ≤ x := by omega
          have hy1 : 1 ≤ y := by have := HYN.out; omega
          clear hx
          have qa := TW5.out.a
          have qb := TW5.out.b
          have fa := kfree_of qa
          have fb := kfree_of qb
          have hne : w.heap.size + 1 ≠ w.heap.size := by omega
          clear qa qb
          go_wp2
          go_roundg (gk - 1)
          case measure => omega
          case rel =>
           have hw1 : IntKind.i64.wrap (x - 1) = x - 1 := IntWalk.i64_in _ (by omega)
           have hw2 : IntKind.i64.wrap (y - 1) = y - 1 := IntWalk.i64_in _ (by omega)
           have sx : hasT cs (x - 1, sa.data.toList) := ⟨by show 0 ≤ x - 1; omega, by show x - 1 ≤ 4; omega, HX.out.2.2⟩
           have sy : hasT cs (y - 1, sb.data.toList) := ⟨by show 0 ≤ y - 1; omega, by show y - 1 ≤ 4; omega, HY.out.2.2⟩
           refine ⟨x - 1, y - 1, by omega, sx, sy, ?_, IFF.out.trans (sub_elem G HX.out HY.out (by show 0 < x; omega) (by show 0 < y; omega))⟩
           first
            | exact TW5.out.set
            | (have := TW5.out.set (x' := x - 1) (y' := y - 1); rw [← hw1, ← hw2] at this; exact this)
  ·go_enter Tryz.func24, Tryz.ntmps24
   go_wp2_with fail
   refine (KA.out _ TW.out.two.below true (by simp [HA.out])).mono ?_
   rintro e w1 ⟨rfl, hb1⟩
   have TW1 := Lib.hid (TW.out.next hb1)
   have HB := Lib.hid hb
   clear hb1 hb
   have e0 := TW1.out.two.b0
   have e1 := TW1.out.two.b1
   go_wp2_with fail
   refine (KB.out _ TW1.out.two.below false (by simp [HB.out])).mono ?_
   rintro e w2 ⟨rfl, hb2⟩
   have TW2 := Lib.hid (TW1.out.next hb2)
   clear hb2
   go_wp2
   go_ret
   exact ⟨false, rfl, ⟨(fun h => by cases h), fun h => absurd h.2.1 HB.out⟩, TW2.out.two.below⟩
 ·have HA := Lib.hid ha
  clear ha
  have KB2 := Lib.hid (fun W hb => KB.out W hb (decide (hasT cs (db, sb.data.toList))) (by simp))
  go_enter Tryz.func24, Tryz.ntmps24
  go_wp2_with fail
  refine (KA.out _ TW.out.two.below false (by simp [HA.out])).mono ?_
  rintro e w1 ⟨rfl, hb1⟩
  have TW1 := Lib.hid (TW.out.next hb1)
  clear hb1
  have e0 := TW1.out.two.b0
  have e1 := TW1.out.two.b1
  go_wp2_with fail
  refine (KB2.out _ TW1.out.two.below).mono ?_
  rintro e w2 ⟨rfl, hb2⟩
  have TW2 := Lib.hid (TW1.out.next hb2)
  clear hb2
  go_wp2
  go_ret
  exact ⟨false, rfl, ⟨(fun h => by cases h), fun h => absurd h.1 HA.out⟩, TW2.out.two.below⟩
end
end Go.Proofs.YtmaknddlgppinaaGreatDoor
