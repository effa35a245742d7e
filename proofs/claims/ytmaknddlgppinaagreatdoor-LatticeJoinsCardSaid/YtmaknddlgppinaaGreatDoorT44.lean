/-
  CUT and joined from the texts of this seat: Rh
-/
import Derived.Test.YtmaknddlgppinaaGreatDoorT01
import Derived.Test.YtmaknddlgppinaaGreatDoorT43
import Derived.Test.YtmaknddlgppinaaGreatDoorT15
set_option linter.unusedVariables false
set_option linter.unusedSimpArgs false
namespace Go.Proofs.YtmaknddlgppinaaGreatDoor
open Go.RowKit
theorem nms_get {cs : List PC} {l : List Nat} {k : Nat} {r : List UInt8} (h : (nms cs l)[k]? = some r) : ∃ x, l[k]? = some x ∧ r = (match cs[x]? with | none => [] | some c => c.name) := by
 unfold nms at h
 rw [List.getElem?_map] at h
 cases hx : l[k]? with
 | none => rw [hx] at h; cases h
 | some x => rw [hx] at h; cases h; exact ⟨x, rfl, rfl⟩
theorem nms_inj {cs : List PC} (G : Good cs) {x y : Nat} (hx : x < cs.length) (hy : y < cs.length) (h : (match cs[x]? with | none => [] | some c => c.name) = (match cs[y]? with | none => [] | some c => c.name)) : x = y := by
 have e1 := List.getElem?_eq_getElem hx
 have e2 := List.getElem?_eq_getElem hy
 rw [e1, e2] at h
 exact G.apart x y _ _ e1 e2 h
theorem nms_mem {cs : List PC} (G : Good cs) {l : List Nat} (hl : ∀ x ∈ l, x < cs.length) {x : Nat} (hx : x < cs.length) : (match cs[x]? with | none => [] | some c => c.name) ∈ nms cs l ↔ x ∈ l := by
 constructor
 ·intro h
  obtain ⟨k, hk⟩ := List.getElem?_of_mem h
  obtain ⟨y, hy, e⟩ := nms_get hk
  have := nms_inj G hx (hl y (List.mem_of_getElem? hy)) e
  rw [this]
  exact List.mem_of_getElem? hy
 ·intro h
  unfold nms
  exact List.mem_map.2 ⟨x, h, rfl⟩
/-- The first of one chain that stands in the other: the least above both. -/
theorem com_mt {cs : List PC} (G : Good cs) {i j : Nat} {l m : List Nat} (hi : i < cs.length) (hj : j < cs.length) (hl : Ch cs i l) (hm : Ch cs j m) {r : List UInt8} (h : ComIs (nms cs l) (nms cs m) r) : ((0 : Int), r) = tyOf cs (0, some (mt cs i j)) := by
 have hll : ∀ x ∈ l, x < cs.length := fun x hx => hl.lt hi hx
 have hml : ∀ x ∈ m, x < cs.length := fun x hx => hm.lt hj hx
 rcases h with ⟨k, hk, hr, hn⟩ | ⟨hn, _⟩
 ·obtain ⟨x, hx, rfl⟩ := nms_get hk
  have hxl := hll x (List.mem_of_getElem? hx)
  have := mt_first G hl hm hx ((nms_mem G hml hxl).1 hr) (fun n y hnk hy hym => by
   have hyl := hll y (List.mem_of_getElem? hy)
   refine hn n _ hnk (?_ : (nms cs l)[n]? = some (match cs[y]? with | none => [] | some c => c.name)) ((nms_mem G hml hyl).2 hym)
   unfold nms
   rw [List.getElem?_map, hy]
   rfl)
  rw [this]
  rfl
 ·exfalso
  have h0 : (0 : Nat) ∈ l := List.mem_of_getLast? (hl.last_zero G hi)
  have h1 : (0 : Nat) ∈ m := List.mem_of_getLast? (hm.last_zero G hj)
  exact hn _ ((nms_mem G hll G.pos).2 h0) ((nms_mem G hml G.pos).2 h1)
/-- Where the loop of Lub ends. -/
def Brk (x y : Int) (s t : List UInt8) : Prop := x = 0 ∨ y = 0 ∨ (x = 1 ∧ s = []) ∨ (y = 1 ∧ t = [])
theorem lub_brk {cs : List PC} (G : Good cs) {x y : Int} {s t : List UInt8} (h : LubOk cs (x, s) (y, t)) (hne : (x, s) ≠ (y, t)) (hb : Brk x y s t) (h0 : ¬ (x = 0 ∧ y = 0)) : lubT cs (x, s) (y, t) = objT := by
 obtain ⟨ha, hb', na, nb⟩ := h
 by_cases hp : 0 < x ∧ 0 < y
 ·rw [lubT_elem G ha hb' hp.1 hp.2 hne, if_pos]
  rcases hb with h | h | ⟨h1, h2⟩ | ⟨h1, h2⟩
  ·omega
  ·omega
  ·left; subst h1; subst h2; rfl
  ·right; subst h1; subst h2; rfl
 ·exact lubT_mixed G ha hb' na hp h0
theorem lub_go {cs : List PC} (G : Good cs) {x y : Int} {s t : List UInt8} (h : LubOk cs (x, s) (y, t)) (hne : (x, s) ≠ (y, t)) (hb : ¬ Brk x y s t) : LubOk cs (x - 1, s) (y - 1, t) ∧ lubT cs (x, s) (y, t) = ((lubT cs (x - 1, s) (y - 1, t)).1 + 1, (lubT cs (x - 1, s) (y - 1, t)).2) := by
 obtain ⟨ha, hb', na, nb⟩ := h
 have hx : 0 ≤ x := ha.1
 have hy : 0 ≤ y := hb'.1
 have hx4 : x ≤ 4 := ha.2.1
 have hy4 : y ≤ 4 := hb'.2.1
 have hx0 : x ≠ 0 := fun e => hb (.inl e)
 have hy0 : y ≠ 0 := fun e => hb (.inr (.inl e))
 have n1 : (x - 1, s) ≠ intT := fun e => by
  injection e with e1 e2
  exact hb (.inr (.inr (.inl ⟨by omega, e2⟩)))
 have n2 : (y - 1, t) ≠ intT := fun e => by
  injection e with e1 e2
  exact hb (.inr (.inr (.inr ⟨by omega, e2⟩)))
 refine ⟨⟨⟨by show 0 ≤ x - 1; omega, by show x - 1 ≤ 4; omega, ha.2.2⟩, ⟨by show 0 ≤ y - 1; omega, by show y - 1 ≤ 4; omega, hb'.2.2⟩, n1, n2⟩, ?_⟩
 rw [lubT_elem G ha hb' (by show 0 < x; omega) (by show 0 < y; omega) hne, if_neg]
 rintro (h | h)
 ·exact n1 h
 ·exact n2 h
/-- The boxes of Lub: both types, the answer. -/
structure ThreeB (w0 : World) (x y : Int) (sa sb : ByteArray) (w : World) : Prop where
 two : TwoB w0 x y sa sb w
 box : w.heap[w0.heap.size + 1 + 1]? = some (.cells #[.int .i64 0, .string ⟨#[]⟩] 31 (0, 0))
theorem ThreeB.start (w : World) (da db : Int) (sa sb : ByteArray) : ThreeB w da db sa sb (((w.alloc (.cells #[.int .i64 da, .string sa] 31)).alloc (.cells #[.int .i64 db, .string sb] 31)).alloc (.cells #[.int .i64 0, .string ⟨#[]⟩] 31)) :=
 ⟨(TwoB.start w da db sa sb).next ((Below.refl _ _).alloc (Nat.le_refl _) _), hheap_at _ _ _ (by simp)⟩
theorem ThreeB.next {w0 w w' : World} {da db : Int} {sa sb : ByteArray} (h : ThreeB w0 da db sa sb w) (hb : Below w.heap.size w w') : ThreeB w0 da db sa sb w' :=
 ⟨h.two.next hb, (hb.block _ (lt_of_block h.box)).trans h.box⟩
theorem ThreeB.set {w0 w : World} {x y x' y' : Int} {sa sb : ByteArray} (h : ThreeB w0 x y sa sb w) : ThreeB w0 x' y' sa sb ((w.setCell ⟨w0.heap.size, 0, none⟩ (.int .i64 x')).setCell ⟨w0.heap.size + 1, 0, none⟩ (.int .i64 y')) :=
 ⟨h.two.set, hheap_set_ne (a := ⟨w0.heap.size + 1, 0, none⟩) (by show w0.heap.size + 1 + 1 ≠ w0.heap.size + 1; omega) (hheap_set_ne (a := ⟨w0.heap.size, 0, none⟩) (by show w0.heap.size + 1 + 1 ≠ w0.heap.size; omega) h.box)⟩
theorem ThreeB.three {w0 w : World} {x y : Int} {sa sb : ByteArray} (h : ThreeB w0 x y sa sb w) : Three w0 x y sa sb w := ⟨h.two.two, h.box⟩
theorem SRow.up {w w' : World} {v : Value} {ns : List (List UInt8)} (h : SRow w.heap.size w v ns) (hb : Below w.heap.size w w') : SRow w'.heap.size w' v ns := by
 obtain ⟨ss, k1, k2, k3⟩ := h
 exact ⟨ss, k1, k2, (k3.keep fun p hp => hb.cell hp).more hb.size⟩
theorem results22 : Tryz.f22.results = #[ResultVar.cell 6 31, ResultVar.tmp 7] := by kernel_rfl
section
variable {B p ow cap : Nat} {A : Option Addr} {cs : List PC} {w : World}
theorem lubok_bits {cs : List PC} {da db : Int} {sa sb : ByteArray} (hN : NamesOk cs) {ka kb qa qb : Bool} (h1 : ka = true ↔ hasT cs (da, sa.data.toList)) (h2 : kb = true ↔ hasT cs (db, sb.data.toList)) (h3 : refT da (L sa) = qa) (h4 : refT db (L sb) = qb) :
  (ka && (kb && (qa && qb))) = true ↔ LubOk cs (da, sa.data.toList) (db, sb.data.toList) := by
 simp only [Bool.and_eq_true]
 unfold LubOk
 constructor
 ·rintro ⟨a, b, c, d⟩
  have ha := h1.1 a
  have hb := h2.1 b
  rw [← h3, refT_has ha hN] at c
  rw [← h4, refT_has hb hN] at d
  exact ⟨ha, hb, by simpa using c, by simpa using d⟩
 ·rintro ⟨a, b, c, d⟩
  rw [← h3, refT_has a hN, ← h4, refT_has b hN]
  exact ⟨h1.2 a, h2.2 b, by simpa using c, by simpa using d⟩
open Classical in
set_option maxRecDepth 1000000 in
set_option maxHeartbeats 25600000 in
theorem RLub_any (h : RT B p A cap cs ow w) (G : Good cs) (hN : NamesOk cs) (da db : Int) (sa sb : ByteArray) (hsa : sa.size ≤ 1000000) (hsb : sb.size ≤ 1000000) :
  Calls Tryz.prog 22 #[.pointer (some ⟨p, 0, none⟩), .agg #[.int .i64 da, .string sa], .agg #[.int .i64 db, .string sb]] w fun e w' => LubAns cs (da, sa.data.toList) (db, sb.data.toList) w w' e := by
 obtain ⟨ka, hka⟩ : ∃ b : Bool, b = true ↔ hasT cs (da, sa.data.toList) := ⟨decide (hasT cs (da, sa.data.toList)), by simp⟩
 obtain ⟨kb, hkb⟩ : ∃ b : Bool, b = true ↔ hasT cs (db, sb.data.toList) := ⟨decide (hasT cs (db, sb.data.toList)), by simp⟩
 have OK := Lib.hid (lubok_bits hN hka hkb rfl rfl)
 have KA := Lib.hid (fun W (hb : Below w.heap.size w W) => RKnown_any (h.link hb) hN da sa hsa ka hka)
 have KB := Lib.hid (fun W (hb : Below w.heap.size w W) => RKnown_any (h.link hb) hN db sb hsb kb hkb)
 have RA := Lib.hid (fun W => RIsRef_any da sa W hsa)
 have RB := Lib.hid (fun W => RIsRef_any db sb W hsb)
 have FX := Lib.hid (fun W (hb : Below w.heap.size w W) x hx => RFind_any (h.link hb) x hx)
 have CX := Lib.hid (fun W (hb : Below w.heap.size w W) x hx => RChain_any (h.link hb) G x hx)
 have TW := Lib.hid (ThreeB.start w da db sa sb)
 generalize refT da (L sa) = qa at *
 generalize refT db (L sb) = qb at *
 clear h hka hkb hN
 go_enter Tryz.func22, Tryz.ntmps22
 go_wp2_with fail
 refine (KA.out _ TW.out.two.two.below).mono ?_
 rintro e w1 ⟨rfl, hb1⟩
 have TW1 := Lib.hid (TW.out.next hb1)
 clear hb1
 have b0 := TW1.out.two.two.b0
 have b1 := TW1.out.two.two.b1
 go_wp2_with fail
 refine (KB.out _ TW1.out.two.two.below).mono ?_
 rintro e w2 ⟨rfl, hb2⟩
 have TW2 := Lib.hid (TW1.out.next hb2)
 clear hb2 b0 b1
 have a0 := TW2.out.two.two.a0
 have a1 := TW2.out.two.two.a1
 go_wp2_with fail
 refine (RA.out _).mono ?_
 rintro e w3 ⟨rfl, hb3⟩
 have TW3 := Lib.hid (TW2.out.next hb3)
 clear hb3 a0 a1
 have b0 := TW3.out.two.two.b0
 have b1 := TW3.out.two.two.b1
 go_wp2_with fail
 refine (RB.out _).mono ?_
 rintro e w4 ⟨rfl, hb4⟩
 have TW4 := Lib.hid (TW3.out.next hb4)
 clear hb4 b0 b1 TW TW1 TW2 TW3
 go_upto_region 5 with fail
 go_cut [41] (fun v wx => v = .bool (!(ka && (kb && (qa && qb)))) ∧ wx = w4)
 case first =>
  cases ka <;> cases kb <;> cases qa <;> cases qb <;> (go_wp2; go_meet; case rel => exact ⟨rfl, rfl⟩)
 obtain ⟨rfl, hw⟩ := hcut
 subst hw
 obtain ⟨ok, hok⟩ : ∃ ok, (ka && (kb && (qa && qb))) = ok := ⟨_, rfl⟩
 rw [hok] at OK
 rw [hok]
 clear hok
 have rx0 := kcells_of TW4.out.box 0
 have rx1 := kcells_of TW4.out.box 1
 simp only [List.getElem?_toArray, List.getElem?_cons_succ, List.getElem?_cons_zero] at rx0 rx1
 have rxf := kfree_of TW4.out.box
 cases ok with
 | false =>
  go_wp2
  obtain ⟨z0, z1, zb⟩ := lub_ret TW4.out.three 0 ⟨#[]⟩
  refine bodyPost_ret (v := .tuple #[.agg #[.int .i64 0, .string ⟨#[]⟩], .bool false]) (by simp [results, results22, go_sem, z0, z1]) rfl ?_
  exact ⟨0, ⟨#[]⟩, false, rfl, by simpa using OK.out, (fun h => by cases h), fun _ => ⟨rfl, rfl⟩, by decide, zb⟩
 | true =>
  have LOK := Lib.hid (OK.out.1 rfl)
  clear OK rx0 rx1 rxf
  have hda : da.toNat ≤ 4 := by have := LOK.out.1.2.1; omega
  go_wp2
  go_loopg [12] da.toNat (fun g v12 wx => ∃ (x y : Int) (k : Nat), v12 = .int .i64 k ∧ x.toNat = g ∧ k + g = da.toNat ∧ LubOk cs (x, sa.data.toList) (y, sb.data.toList) ∧ ThreeB w x y sa sb wx ∧ lubT cs (da, sa.data.toList) (db, sb.data.toList) = ((lubT cs (x, sa.data.toList) (y, sb.data.toList)).1 + k, (lubT cs (x, sa.data.toList) (y, sb.data.toList)).2))
  case atStart => exact ⟨da, db, 0, rfl, rfl, by omega, LOK.out, TW4.out, by simp⟩
  case round =>
   obtain ⟨x, y, k, rfl, hg, hkg, hlo, htw, hlu⟩ := hrel
   have LO := Lib.hid hlo
   have TW5 := Lib.hid htw
   have LU := Lib.hid hlu
   have hx0 : 0 ≤ x := hlo.1.1
   have hx4 : x ≤ 4 := hlo.1.2.1
   have hy0 : 0 ≤ y := hlo.2.1.1
   have hy4 : y ≤ 4 := hlo.2.1.2.1
   have a0 := htw.two.two.a0
   have a1 := htw.two.two.a1
   have b0 := htw.two.two.b0
   have b1 := htw.two.two.b1
   have fr := kfree_of htw.box
   have fr0 := kcells_of htw.box 0
   have fr1 := kcells_of htw.box 1
   simp only [List.getElem?_toArray, List.getElem?_cons_succ, List.getElem?_cons_zero] at fr0 fr1
   have heq := eql31 x y sa sb
   have HST := Lib.hid (show sa = sb ↔ sa.data.toList = sb.data.toList from ⟨fun h => by rw [h], fun h => by cases sa; cases sb; simp only at h; congr 1; exact Array.toList_inj.1 h⟩)
   clear hlo htw hlu TW4
   by_cases hxy : x = y ∧ sa = sb
   ·have HE := Lib.hid hxy
    have e1 : decide (x = y ∧ sa = sb) = true := decide_eq_true hxy
    clear hxy
    have hw : IntKind.i64.wrap ((k : Int) + x) = (k : Int) + x := IntWalk.i64_in _ (by omega)
    go_wp2
    obtain ⟨z0, z1, zb⟩ := lub_ret TW5.out.three ((k : Int) + x) sa
    refine bodyPost_ret (v := .tuple #[.agg #[.int .i64 ((k : Int) + x), .string sa], .bool true]) (by simp [results, results22, go_sem, z0, z1]) rfl ?_
    refine ⟨(k : Int) + x, sa, true, rfl, by simpa using LOK.out, fun _ => ?_, (fun h => by cases h), hsa, zb⟩
    have hself : lubT cs (x, sa.data.toList) (y, sb.data.toList) = (x, sa.data.toList) := by
     rw [← HE.out.1, ← HE.out.2]
     exact lubT_self G LO.out.1 LO.out.2.2.1
    rw [LU.out, hself]
    exact Prod.ext (by show (k : Int) + x = x + k; omega) rfl
   ·have e1 : decide (x = y ∧ sa = sb) = false := decide_eq_false hxy
    have HNE := Lib.hid (show (x, sa.data.toList) ≠ (y, sb.data.toList) from fun h => hxy (by injection h with h1 h2; exact ⟨h1, HST.out.2 h2⟩))
    clear hxy
    go_upto_region 10 with fail
    go_cut [80] (fun v wx => ∃ bb : Bool, v = .bool bb ∧ (bb = true ↔ Brk x y sa.data.toList sb.data.toList) ∧ wx = wr)
    case first =>
     by_cases c1 : x = 0
     ·have f1 : (x == 0) = true := by simpa using c1
      go_wp2
      go_meet
      case rel => exact ⟨true, rfl, by rw [← Lib.toList_data sa, ← Lib.toList_data sb]; simp [Brk, c1], rfl⟩
     ·have f1 : (x == 0) = false := by simpa using c1
      by_cases c2 : y = 0
      ·have f2 : (y == 0) = true := by simpa using c2
       go_wp2
       go_meet
       case rel => exact ⟨true, rfl, by rw [← Lib.toList_data sa, ← Lib.toList_data sb]; simp [Brk, c2], rfl⟩
      ·have f2 : (y == 0) = false := by simpa using c2
       by_cases c3 : x = 1
       ·have f3 : (x == 1) = true := by simpa using c3
        by_cases c4 : sa.toList = []
        ·have f4 : (sa.toList == []) = true := by simpa using c4
         have g4 : sa.toList.isEmpty = true := by simpa using c4
         go_wp2
         go_meet
         case rel => exact ⟨true, rfl, by rw [← Lib.toList_data sa, ← Lib.toList_data sb]; simp [Brk, c3, c4], rfl⟩
        ·have f4 : (sa.toList == []) = false := by simpa using c4
         have g4 : sa.toList.isEmpty = false := by simpa using c4
         by_cases c5 : y = 1
         ·have f5 : (y == 1) = true := by simpa using c5
          by_cases c6 : sb.toList = []
          ·have f6 : (sb.toList == []) = true := by simpa using c6
           have g6 : sb.toList.isEmpty = true := by simpa using c6
           go_wp2
           go_meet
           case rel => exact ⟨true, rfl, by rw [← Lib.toList_data sa, ← Lib.toList_data sb]; simp [Brk, c5, c6], rfl⟩
          ·have f6 : (sb.toList == []) = false := by simpa using c6
           have g6 : sb.toList.isEmpty = false := by simpa using c6
           go_wp2
           go_meet
           case rel => exact ⟨false, rfl, by rw [← Lib.toList_data sa, ← Lib.toList_data sb]; simp [Brk, c1, c2, c4, c6], rfl⟩
         ·have f5 : (y == 1) = false := by simpa using c5
          go_wp2
          go_meet
          case rel => exact ⟨false, rfl, by rw [← Lib.toList_data sa, ← Lib.toList_data sb]; simp [Brk, c1, c2, c4, c5], rfl⟩
       ·have f3 : (x == 1) = false := by simpa using c3
        by_cases c5 : y = 1
        ·have f5 : (y == 1) = true := by simpa using c5
         by_cases c6 : sb.toList = []
         ·have f6 : (sb.toList == []) = true := by simpa using c6
          have g6 : sb.toList.isEmpty = true := by simpa using c6
          go_wp2
          go_meet
          case rel => exact ⟨true, rfl, by rw [← Lib.toList_data sa, ← Lib.toList_data sb]; simp [Brk, c5, c6], rfl⟩
         ·have f6 : (sb.toList == []) = false := by simpa using c6
          have g6 : sb.toList.isEmpty = false := by simpa using c6
          go_wp2
          go_meet
          case rel => exact ⟨false, rfl, by rw [← Lib.toList_data sa, ← Lib.toList_data sb]; simp [Brk, c1, c2, c3, c6], rfl⟩
        ·have f5 : (y == 1) = false := by simpa using c5
         go_wp2
         go_meet
         case rel => exact ⟨false, rfl, by rw [← Lib.toList_data sa, ← Lib.toList_data sb]; simp [Brk, c1, c2, c3, c5], rfl⟩
    obtain ⟨bb, rfl, hbb, hw⟩ := hcut
    subst hw
    have HBB := Lib.hid hbb
    clear hbb heq e1
    cases bb with
    | false =>
     have NB := Lib.hid (show ¬ Brk x y sa.data.toList sb.data.toList from fun h => by have := HBB.out.2 h; cases this)
     have hx1 : 1 ≤ x := by
      have h : x ≠ 0 := fun e => NB.out (.inl e)
      omega
     have hy1 : 1 ≤ y := by
      have h : y ≠ 0 := fun e => NB.out (.inr (.inl e))
      omega
     have qa := TW5.out.two.a
     have qb := TW5.out.two.b
     have fa := kfree_of qa
     have fb := kfree_of qb
     have hw1 : IntKind.i64.wrap (x - 1) = x - 1 := IntWalk.i64_in _ (by omega)
     have hw2 : IntKind.i64.wrap (y - 1) = y - 1 := IntWalk.i64_in _ (by omega)
     have hne : w.heap.size + 1 ≠ w.heap.size := by omega
     clear qa qb
     go_wp2
     go_roundg (gk - 1)
     case measure => omega
     case rel =>
      obtain ⟨h1, h2⟩ := lub_go G LO.out HNE.out NB.out
      refine ⟨x - 1, y - 1, k + 1, by go_num, by omega, by omega, h1, TW5.out.set, ?_⟩
      rw [LU.out, h2]
      exact Prod.ext (by show _ + 1 + (k : Int) = _ + ((k + 1 : Nat) : Int); omega) rfl
    | true =>
     have BK := Lib.hid (HBB.out.1 rfl)
     clear HBB
     go_upto_region 15 with fail
     go_cut [14] (fun v14 wx => ∃ (q : Nat) (b : Bool), v14 = .pointer (some ⟨q, 0, none⟩) ∧ RBoxAt cs ow sa.data.toList q b wx ∧ ThreeB w x y sa sb wx)
     case first =>
      go_wp2_with fail
      refine (FX.out _ TW5.out.two.two.below sa hsa).mono ?_
      rintro e w5 ⟨hfa, hb⟩
      have TW6 := Lib.hid (TW5.out.next hb)
      rcases hfa with ⟨h1, rfl⟩ | ⟨i, d, kc, ifn, h1, h2, h3, h4, rfl⟩
      ·have H1 := Lib.hid h1
       clear h1 hb
       unfold zeroCls
       go_wp2
       go_meet
       case rel => exact ⟨_, false, rfl, RBoxAt.new H1.out, TW6.out.next ((Below.refl _ _).alloc (Nat.le_refl _) _)⟩
      ·obtain ⟨a4, c4, rfl, _⟩ := h4.length
       have H1 := Lib.hid h1
       have H2 := Lib.hid h2
       have H3 := Lib.hid h3
       have H4 := Lib.hid h4
       clear h1 h2 h3 h4 hb
       go_wp2
       go_meet
       case rel => exact ⟨_, true, rfl, RBoxAt.new2 H1.out H2.out H3.out H4.out, TW6.out.next ((Below.refl _ _).alloc (Nat.le_refl _) _)⟩
     obtain ⟨q1, bx1, rfl, hbx1, htw⟩ := hcut
     obtain ⟨V1, hV1⟩ : ∃ z, z = wc := ⟨_, rfl⟩
     subst hV1
     have X1 := Lib.hid hbx1
     have TW6 := Lib.hid htw
     clear hbx1 htw a0 a1 b0 b1 fr fr0 fr1
     have b0 := TW6.out.two.two.b0
     have b1 := TW6.out.two.two.b1
     go_upto_region 16 with fail
     go_cut [16] (fun v16 wx => ∃ (q : Nat) (b : Bool), v16 = .pointer (some ⟨q, 0, none⟩) ∧ RBoxAt cs ow sb.data.toList q b wx ∧ RBoxAt cs ow sa.data.toList q1 bx1 wx ∧ ThreeB w x y sa sb wx)
     case first =>
      go_wp2_with fail
      refine (FX.out _ TW6.out.two.two.below sb hsb).mono ?_
      rintro e w5 ⟨hfa, hb⟩
      have TW7 := Lib.hid (TW6.out.next hb)
      have X2 := Lib.hid (X1.out.link hb)
      rcases hfa with ⟨h1, rfl⟩ | ⟨i, d, kc, ifn, h1, h2, h3, h4, rfl⟩
      ·have H1 := Lib.hid h1
       clear h1 hb
       unfold zeroCls
       go_wp2
       go_meet
       case rel => exact ⟨_, false, rfl, RBoxAt.new H1.out, X2.out.link ((Below.refl _ _).alloc (Nat.le_refl _) _), TW7.out.next ((Below.refl _ _).alloc (Nat.le_refl _) _)⟩
      ·obtain ⟨a4, c4, rfl, _⟩ := h4.length
       have H1 := Lib.hid h1
       have H2 := Lib.hid h2
       have H3 := Lib.hid h3
       have H4 := Lib.hid h4
       clear h1 h2 h3 h4 hb
       go_wp2
       go_meet
       case rel => exact ⟨_, true, rfl, RBoxAt.new2 H1.out H2.out H3.out H4.out, X2.out.link ((Below.refl _ _).alloc (Nat.le_refl _) _), TW7.out.next ((Below.refl _ _).alloc (Nat.le_refl _) _)⟩
     obtain ⟨q2, bx2, rfl, hbx2, hbx1, htw⟩ := hcut
     obtain ⟨V2, hV2⟩ : ∃ z, z = wc := ⟨_, rfl⟩
     subst hV2
     have Y1 := Lib.hid hbx1
     have Y2 := Lib.hid hbx2
     have TW7 := Lib.hid htw
     have a0 := htw.two.two.a0
     have a1 := htw.two.two.a1
     have b0' := htw.two.two.b0
     have b1' := htw.two.two.b1
     obtain ⟨if1, hif1⟩ : ∃ bb, V2.cell? ⟨q1, 3, none⟩ = some (.bool bb) ∧ (∀ i, ix cs sa.data.toList = some i → isJ cs i = bb) := by
      rcases hbx1 with ⟨_, h1, h2⟩ | ⟨_, i, d, kc, a4, c4, h1, h2, _, _, h5⟩
      ·exact ⟨false, kcells_of h2 3, fun i hi => by rw [h1] at hi; cases hi⟩
      ·exact ⟨d.iface, kcells_of h5 3, fun i' hi => by rw [h1] at hi; cases hi; unfold isJ; rw [h2]⟩
     obtain ⟨if2, hif2⟩ : ∃ bb, V2.cell? ⟨q2, 3, none⟩ = some (.bool bb) ∧ (∀ i, ix cs sb.data.toList = some i → isJ cs i = bb) := by
      rcases hbx2 with ⟨_, h1, h2⟩ | ⟨_, i, d, kc, a4, c4, h1, h2, _, _, h5⟩
      ·exact ⟨false, kcells_of h2 3, fun i hi => by rw [h1] at hi; cases hi⟩
      ·exact ⟨d.iface, kcells_of h5 3, fun i' hi => by rw [h1] at hi; cases hi; unfold isJ; rw [h2]⟩
     have x3 := hif1.1
     have y3 := hif2.1
     have IF1 := Lib.hid hif1.2
     have IF2 := Lib.hid hif2.2
     clear hbx1 hbx2 htw b0 b1 hif1 hif2 X1
     go_upto_region 17 with fail
     go_cut [122] (fun v wx => v = .bool (decide (x = 0) && decide (y = 0) && !if1 && !if2) ∧ wx = V2)
     case first =>
      by_cases c1 : x = 0
      ·have f1 : (x == 0) = true := by simpa using c1
       by_cases c2 : y = 0
       ·have f2 : (y == 0) = true := by simpa using c2
        cases if1 <;> cases if2 <;> (go_wp2; go_meet; case rel => exact ⟨by simp [c1, c2], rfl⟩)
       ·have f2 : (y == 0) = false := by simpa using c2
        go_wp2
        go_meet
        case rel => exact ⟨by simp [c2], rfl⟩
      ·have f1 : (x == 0) = false := by simpa using c1
       go_wp2
       go_meet
       case rel => exact ⟨by simp [c1], rfl⟩
     obtain ⟨rfl, hw⟩ := hcut
     rw [hw]
     clear hw
     obtain ⟨cd, hcd⟩ : ∃ cd, (decide (x = 0) && decide (y = 0) && !if1 && !if2) = cd := ⟨_, rfl⟩
     rw [hcd]
     have HCD := Lib.hid hcd
     clear hcd
     go_upto_if 122 with (fail)
     go_cut [13] (fun v13 wx => ∃ s : ByteArray, v13 = .string s ∧ s.size ≤ 1000000 ∧ ThreeB w x y sa sb wx ∧ lubT cs (x, sa.data.toList) (y, sb.data.toList) = (0, s.data.toList))
     case first =>
      as_aux_lemma =>
      by_cases hz : x = 0 ∧ y = 0
      ·obtain ⟨hzx, hzy⟩ := hz
       subst hzx; subst hzy
       obtain ⟨i, hi⟩ : ∃ i, ix cs sa.data.toList = some i := by
        cases hh : ix cs sa.data.toList with
        | none =>
         rcases LO.out.1.2.2 with h1 | h1
         ·exact absurd (by show ((0 : Int), sa.data.toList) = (0, []); rw [show sa.data.toList = [] from h1]) LO.out.2.2.1
         ·exact absurd hh h1
        | some i => exact ⟨i, rfl⟩
       obtain ⟨j, hj⟩ : ∃ j, ix cs sb.data.toList = some j := by
        cases hh : ix cs sb.data.toList with
        | none =>
         rcases LO.out.2.1.2.2 with h1 | h1
         ·exact absurd (by show ((0 : Int), sb.data.toList) = (0, []); rw [show sb.data.toList = [] from h1]) LO.out.2.2.2
         ·exact absurd hh h1
        | some i => exact ⟨i, rfl⟩
       have hij : i ≠ j := by
        intro e
        subst e
        apply HNE.out
        rw [← name_at hi (List.getElem?_eq_getElem (ix_lt hi)), ← name_at hj (List.getElem?_eq_getElem (ix_lt hj))]
       have II := Lib.hid hi
       have JJ := Lib.hid hj
       have IJ := Lib.hid hij
       have I1 := Lib.hid (IF1.out i hi)
       have I2 := Lib.hid (IF2.out j hj)
       clear hi hj hij
       cases cd with
       | false =>
        go_wp2
        go_meet
        case rel =>
         refine ⟨⟨#[79, 98, 106, 101, 99, 116]⟩, rfl, by decide, TW7.out, lubT_ifc G (a := (0, sa.data.toList)) (b := (0, sb.data.toList)) rfl rfl II.out JJ.out IJ.out ?_⟩
         rw [I1.out, I2.out]
         have := HCD.out
         cases if1 <;> cases if2 <;> simp at this ⊢
       | true =>
        go_wp2
        have haw : w.heap.size < V2.heap.size := by have := TW7.out.two.two.sz; omega
        have hbw : w.heap.size + 1 < V2.heap.size := by have := TW7.out.two.two.sz; omega
        have T0 := (Below.refl V2.heap.size V2).drew
        refine wp_region_held_drew (S := fun V => Below V2.heap.size V2 V) (by kernel_rfl) T0 (fun hS0 => ?_)
        refine wpAnyH_take (i := 0) (oi := ({ dst := some 123, op := .move (.tmp 0), type := 36, pos := "ref.go:236", after := #[], guard := none } : Oper)) (v := ?av1) rfl (by kernel_rfl) (by kernel_rfl) (by kernel_rfl) (fun _ _ _ h => h) (Or.inl ⟨by rfl, ?ay1⟩) T0 ?_
        case ay1 => (intro V hSw; go_simp; try with_reducible rfl)
        try simp only [pu0, puN, pu1, pu2, pu3]
        refine wpAnyH_take (i := 1) (oi := ({ dst := some 124, op := .fieldAddr 31 (.tmp 4) 1, type := 0, pos := "ref.go:236", after := #[], guard := none } : Oper)) (v := ?av2) rfl (by kernel_rfl) (by kernel_rfl) (by kernel_rfl) (fun _ _ _ h => h) (Or.inl ⟨by rfl, ?ay2⟩) T0 ?_
        case ay2 => (intro V hSw; go_simp; try with_reducible rfl)
        try simp only [pu0, puN, pu1, pu2, pu3]
        refine wpAnyH_take (i := 2) (oi := ({ dst := some 125, op := .load 9 (.tmp 124), type := 9, pos := "ref.go:236", after := #[⟨1, .data⟩], guard := none } : Oper)) (v := ?av3) rfl (by kernel_rfl) (by kernel_rfl) (by kernel_rfl) (fun _ _ _ h => h) (Or.inl ⟨by rfl, ?ay3⟩) T0 ?_
        case ay3 => (intro V hSw; have e1 := (hSw.cell (p := ⟨w.heap.size, 1, none⟩) haw).trans a1; go_simp; try with_reducible rfl)
        try simp only [pu0, puN, pu1, pu2, pu3]
        refine wpAnyH_take (i := 4) (oi := ({ dst := some 127, op := .move (.tmp 0), type := 36, pos := "ref.go:236", after := #[], guard := none } : Oper)) (v := ?av4) rfl (by kernel_rfl) (by kernel_rfl) (by kernel_rfl) (fun _ _ _ h => h) (Or.inl ⟨by rfl, ?ay4⟩) T0 ?_
        case ay4 => (intro V hSw; go_simp; try with_reducible rfl)
        try simp only [pu0, puN, pu1, pu2, pu3]
        refine wpAnyH_take (i := 5) (oi := ({ dst := some 128, op := .fieldAddr 31 (.tmp 5) 1, type := 0, pos := "ref.go:236", after := #[], guard := none } : Oper)) (v := ?av5) rfl (by kernel_rfl) (by kernel_rfl) (by kernel_rfl) (fun _ _ _ h => h) (Or.inl ⟨by rfl, ?ay5⟩) T0 ?_
        case ay5 => (intro V hSw; go_simp; try with_reducible rfl)
        try simp only [pu0, puN, pu1, pu2, pu3]
        refine wpAnyH_take (i := 6) (oi := ({ dst := some 129, op := .load 9 (.tmp 128), type := 9, pos := "ref.go:236", after := #[⟨5, .data⟩], guard := none } : Oper)) (v := ?av6) rfl (by kernel_rfl) (by kernel_rfl) (by kernel_rfl) (fun _ _ _ h => h) (Or.inl ⟨by rfl, ?ay6⟩) T0 ?_
        case ay6 => (intro V hSw; have e1 := (hSw.cell (p := ⟨w.heap.size + 1, 1, none⟩) hbw).trans b1'; go_simp; try with_reducible rfl)
        try simp only [pu0, puN, pu1, pu2, pu3]
        refine wpAnyH_ready (rs := [3]) (by kernel_rfl) (by simp) ?_
        refine (AllReadyH.cons (o := _) rfl (fun K hK => ?_) AllReadyH.nil)
        go_simp
        go_at_call 74
        refine (CX.out _ (TW7.out.two.two.below.trans (T0.mono TW7.out.two.two.below.size)) sa hsa).mono ?_
        rintro e P7 ⟨v1, l1, rfl, hl1, _, own1, hb7⟩
        have HL1 := Lib.hid (hl1 i II.out)
        have RW1 := Lib.hid own1.row
        have T7 := T0.trans (hb7.mono T0.size)
        clear hl1 own1
        try go_wp2_with fail
        refine hK.out _ _ T7 (fun hS7 => ?_)
        clear hK K
        try simp only [pu0, puN, pu1, pu2, pu3]
        refine wpAnyH_ready (rs := [7]) (by kernel_rfl) (by simp) ?_
        refine (AllReadyH.cons (o := _) rfl (fun K hK => ?_) AllReadyH.nil)
        go_simp
        go_at_call 74
        refine (CX.out _ (TW7.out.two.two.below.trans (T7.mono TW7.out.two.two.below.size)) sb hsb).mono ?_
        rintro e P8 ⟨v2, l2, rfl, hl2, _, own2, hb8⟩
        have HL2 := Lib.hid (hl2 j JJ.out)
        have RW2 := Lib.hid own2.row
        replace RW1 := Lib.hid (RW1.out.up hb8)
        have T8 := T7.trans (hb8.mono T7.size)
        clear hl2 own2
        try go_wp2_with fail
        refine hK.out _ _ T8 (fun hS8 => ?_)
        clear hK K
        try simp only [pu0, puN, pu1, pu2, pu3]
        refine wpAnyH_ready (rs := [8]) (by kernel_rfl) (by simp) ?_
        refine (AllReadyH.cons (o := _) rfl (fun K hK => ?_) AllReadyH.nil)
        go_simp
        go_at_call 73
        refine (Rcommon_any _ (nms cs l1) (nms cs l2) _ _ _ RW1.out RW2.out (Nat.le_refl _)).mono ?_
        rintro e P9 ⟨⟨s, rfl, hcom, hsz⟩, hd9⟩
        have HC := Lib.hid hcom
        have T9 := T8.trans (hd9.below.mono T8.size)
        clear hcom
        try go_wp2_with fail
        refine hK.out _ _ T9 (fun hS9 => ?_)
        clear hK K
        try simp only [pu0, puN, pu1, pu2, pu3]
        refine wpAnyH_take (i := 9) (oi := ({ dst := some 13, op := .assign (.tmp 131), type := 9, pos := "ref.go:236", after := #[⟨8, .data⟩, ⟨8, .chain⟩, ⟨0, .phase⟩, ⟨1, .phase⟩, ⟨2, .phase⟩, ⟨3, .phase⟩, ⟨4, .phase⟩, ⟨5, .phase⟩, ⟨6, .phase⟩, ⟨7, .phase⟩, ⟨8, .phase⟩], guard := none } : Oper)) (v := ?av10) rfl (by kernel_rfl) (by kernel_rfl) (by kernel_rfl) (fun _ _ _ h => h) (Or.inl ⟨by rfl, ?ay10⟩) T9 ?_
        case ay10 => (intro V hSw; go_simp; try with_reducible rfl)
        try simp only [pu0, puN, pu1, pu2, pu3]
        refine wpAnyH_done (by kernel_rfl) ?_ _
        try go_wp2
        go_meet
        case rel => exact ⟨s, rfl, hsz, TW7.out.next T9, by rw [lubT_class G (a := (0, sa.data.toList)) (b := (0, sb.data.toList)) rfl rfl II.out JJ.out]; exact (com_mt G (ix_lt II.out) (ix_lt JJ.out) HL1.out HL2.out HC.out).symm⟩
      ·have HZ := Lib.hid (lub_brk G LO.out HNE.out BK.out hz)
       have hcd : cd = false := by
        rw [← HCD.out]
        have : ¬ (x = 0 ∧ y = 0) := hz
        cases hx : decide (x = 0) <;> cases hy : decide (y = 0) <;> simp at hx hy ⊢
        exact absurd ⟨hx, hy⟩ this
       subst hcd
       clear hz
       go_wp2
       go_meet
       case rel => exact ⟨⟨#[79, 98, 106, 101, 99, 116]⟩, rfl, by decide, TW7.out, HZ.out⟩
     obtain ⟨s, rfl, hsz, htw, hl⟩ := hcut
     obtain ⟨V3, hV3⟩ : ∃ z, z = wc := ⟨_, rfl⟩
     subst hV3
     have TW8 := Lib.hid htw
     have HL := Lib.hid hl
     have g0 := kcells_of htw.box 0
     have g1 := kcells_of htw.box 1
     have gf := kfree_of htw.box
     simp only [List.getElem?_toArray, List.getElem?_cons_succ, List.getElem?_cons_zero] at g0 g1
     clear htw hl a0 a1 b0' b1' x3 y3
     go_wp2
     obtain ⟨z0, z1, zb⟩ := lub_ret TW8.out.three (k : Int) s
     refine bodyPost_ret (v := .tuple #[.agg #[.int .i64 (k : Int), .string s], .bool true]) (by simp [results, results22, go_sem, z0, z1]) rfl ?_
     refine ⟨(k : Int), s, true, rfl, by simpa using LOK.out, fun _ => ?_, (fun h => by cases h), hsz, zb⟩
     rw [LU.out, HL.out]
     exact Prod.ext (by show (k : Int) = 0 + (k : Int); omega) rfl
end
end Go.Proofs.YtmaknddlgppinaaGreatDoor
