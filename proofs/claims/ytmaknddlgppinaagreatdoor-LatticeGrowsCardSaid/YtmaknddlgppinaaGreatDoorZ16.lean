/-
  CUT and joined from the texts of this seat: In
-/
import Derived.Test.YtmaknddlgppinaaGreatDoorZ01
import Derived.Test.YtmaknddlgppinaaGreatDoorZ13
set_option linter.unusedVariables false
set_option linter.unusedSimpArgs false
namespace Go.Proofs.YtmaknddlgppinaaGreatDoor
open Go.RowKit
section
variable {B tb mb cap ow : Nat} {A : Option Addr} {cs : List PC} {cl sl : Nat → Nat} {S : Nat → List Nat}
theorem lalloc_facts {W0 wi : World} {cs : Array Value} {t : TypeId} (hb : Below (W0.alloc (.cells cs t)).heap.size (W0.alloc (.cells cs t)) wi) : wi.heap[W0.heap.size]? = some (.cells cs t (0, 0)) :=
 (hb.block _ (by simp)).trans (hheap_new W0 _)
theorem lalloc_facts0 {W0 wi : World} {cs : Array Value} {t : TypeId} (hb : Below (W0.alloc (.cells cs t)).drew.heap.size (W0.alloc (.cells cs t)).drew wi) : wi.heap[W0.heap.size]? = some (.cells cs t (0, 0)) :=
 (hb.block _ (by show W0.heap.size < (W0.alloc _).heap.size; simp)).trans (hheap_new W0 _)
theorem lkeep_facts {W wi : World} {b : Nat} {cs : Array Value} {t : TypeId} (hb : Below W.heap.size W wi) (h : W.heap[b]? = some (.cells cs t (0, 0))) : wi.heap[b]? = some (.cells cs t (0, 0)) := (hb.block _ (lt_of_block h)).trans h
/-- The two types, boxed, and the answer's box. -/
structure Three (w0 : World) (da db : Int) (sa sb : ByteArray) (w : World) : Prop where
 two : Two w0 da db sa sb w
 box : w.heap[w0.heap.size + 1 + 1]? = some (.cells #[.int .i64 0, .string ⟨#[]⟩] 31 (0, 0))
theorem Three.start (w : World) (da db : Int) (sa sb : ByteArray) : Three w da db sa sb (((w.alloc (.cells #[.int .i64 da, .string sa] 31)).alloc (.cells #[.int .i64 db, .string sb] 31)).alloc (.cells #[.int .i64 0, .string ⟨#[]⟩] 31)) :=
 ⟨(Two.start w da db sa sb).next ((Below.refl _ _).alloc (Nat.le_refl _) _), hheap_at _ _ _ (by simp)⟩
theorem Three.next {w0 w w' : World} {da db : Int} {sa sb : ByteArray} (h : Three w0 da db sa sb w) (hb : Below w.heap.size w w') : Three w0 da db sa sb w' :=
 ⟨h.two.next hb, (hb.block _ (lt_of_block h.box)).trans h.box⟩
theorem Three.push {w0 w : World} {da db : Int} {sa sb : ByteArray} (h : Three w0 da db sa sb w) (o : Obj) : Three w0 da db sa sb (w.alloc o) := h.next ((Below.refl _ _).alloc (Nat.le_refl _) o)
theorem Three.set {w0 w : World} {da db : Int} {sa sb : ByteArray} (h : Three w0 da db sa sb w) {x : Nat} (hx : w0.heap.size + 1 + 1 < x) (i : Nat) (u : Value) : Three w0 da db sa sb (w.setCell ⟨x, i, none⟩ u) := by
 have c : ∀ b q, b < x → (w.setCell ⟨x, i, none⟩ u).cell? ⟨b, q, none⟩ = w.cell? ⟨b, q, none⟩ := fun b q hb => by
  unfold World.cell?
  rw [Below.heap_setCell _ _ _ _ (by show b ≠ x; omega)]
 have t := h.two
 exact ⟨⟨(c _ _ (by omega)).trans t.a0, (c _ _ (by omega)).trans t.a1, (c _ _ (by omega)).trans t.b0, (c _ _ (by omega)).trans t.b1, t.below.setCell (p := ⟨x, i, none⟩) (by show w0.heap.size ≤ x; omega) u, by have := t.sz; simpa [World.setCell] using this⟩, (Below.heap_setCell _ _ _ _ (by show w0.heap.size + 1 + 1 ≠ x; omega)).trans h.box⟩
theorem lt_of_cell {w : World} {b i : Nat} {v : Value} (h : w.cell? ⟨b, i, none⟩ = some v) : b < w.heap.size := by
 unfold World.cell? at h
 cases hb : w.heap[b]? with
 | none => simp only [hb] at h; cases h
 | some o => exact lt_of_block hb
/-- The answer of Lub. -/
def LubAns (cs : List PC) (a b : TY) (w w' : World) (e : Ending) : Prop :=
 ∃ (d : Int) (s : ByteArray) (ok : Bool), e = .returned (.tuple #[.agg #[.int .i64 d, .string s], .bool ok]) ∧ (ok = true ↔ LubOk cs a b) ∧ (ok = true → (d, s.data.toList) = lubT cs a b) ∧ (ok = false → d = 0 ∧ s = ⟨#[]⟩) ∧ s.size ≤ 1000000 ∧ Below w.heap.size w w'
theorem set2 {w : World} {b : Nat} {x0 x1 : Value} {t : TypeId} {m : Nat × Nat} (h : w.heap[b]? = some (.cells #[x0, x1] t m)) (v0 v1 : Value) : ((w.setCell ⟨b, 0, none⟩ v0).setCell ⟨b, 1, none⟩ v1).heap[b]? = some (.cells #[v0, v1] t m) := by
 have h1 : (w.setCell ⟨b, 0, none⟩ v0).heap[b]? = some (.cells #[v0, x1] t m) := by rw [heap_set_eq h]; rfl
 rw [heap_set_eq h1]
 rfl
/-- The end: the answer's box was set. -/
theorem lub_ret {w0 w : World} {da db : Int} {sa sb : ByteArray} (h : Three w0 da db sa sb w) (d : Int) (s : ByteArray) :
  ((w.setCell ⟨w0.heap.size + 1 + 1, 0, none⟩ (.int .i64 d)).setCell ⟨w0.heap.size + 1 + 1, 1, none⟩ (.string s)).cell? ⟨w0.heap.size + 1 + 1, 0, none⟩ = some (.int .i64 d) ∧
  ((w.setCell ⟨w0.heap.size + 1 + 1, 0, none⟩ (.int .i64 d)).setCell ⟨w0.heap.size + 1 + 1, 1, none⟩ (.string s)).cell? ⟨w0.heap.size + 1 + 1, 1, none⟩ = some (.string s) ∧
  Below w0.heap.size w0 ((w.setCell ⟨w0.heap.size + 1 + 1, 0, none⟩ (.int .i64 d)).setCell ⟨w0.heap.size + 1 + 1, 1, none⟩ (.string s)) := by
 have := set2 h.box (.int .i64 d) (.string s)
 exact ⟨kcells_of this 0, kcells_of this 1, (h.two.below.setCell (p := ⟨w0.heap.size + 1 + 1, 0, none⟩) (by show w0.heap.size ≤ w0.heap.size + 1 + 1; omega) _).setCell (p := ⟨w0.heap.size + 1 + 1, 1, none⟩) (by show w0.heap.size ≤ w0.heap.size + 1 + 1; omega) _⟩
set_option maxRecDepth 1000000 in
set_option maxHeartbeats 6400000 in
theorem Lub_step {da db : Int} {sa sb : ByteArray} {w : World} (h : HT B tb mb A cap ow cs cl sl S w) (hsa : sa.size ≤ 1000000) (hsb : sb.size ≤ 1000000)
  (IH : LubOk cs (da, sa.data.toList) (db, sb.data.toList) → 0 < da → 0 < db → ∀ W, HT B tb mb A cap ow cs cl sl S W → Calls Tryz.prog 21 #[.pointer (some ⟨tb, 0, none⟩), .agg #[.int .i64 (da - 1), .string sa], .agg #[.int .i64 (db - 1), .string sb]] W (fun e w' => LubAns cs (da - 1, sa.data.toList) (db - 1, sb.data.toList) W w' e)) :
  Calls Tryz.prog 21 #[.pointer (some ⟨tb, 0, none⟩), .agg #[.int .i64 da, .string sa], .agg #[.int .i64 db, .string sb]] w fun e w' => LubAns cs (da, sa.data.toList) (db, sb.data.toList) w w' e := by
 have H := Lib.hid h
 have IHH := Lib.hid IH
 have htl := lt_of_block h.t0
 have hsm : (1000000 : Nat) ≤ maxLen := by unfold maxLen; omega
 have HA := Lib.hid (fun b hh W hb => has_true (w := W) h hb (d := da) (s := sa) (by omega) (b := b) hh)
 have HBB := Lib.hid (fun b hh W hb => has_true (w := W) h hb (d := db) (s := sb) (by omega) (b := b) hh)
 have IA := Lib.hid (fun W => isInt_any da sa W)
 have IB := Lib.hid (fun W => isInt_any db sb W)
 have G := h.good
 have TW := Lib.hid (Three.start w da db sa sb)
 have hst : ∀ {s t : ByteArray}, s = t ↔ s.data.toList = t.data.toList := fun {s t} => ⟨fun h => by rw [h], fun h => by cases s; cases t; simp only at h; congr 1; exact Array.toList_inj.1 h⟩
 clear h IH
 go_enter Tryz.func21, Tryz.ntmps21
 go_upto_region 1 with fail
 go_cut [12] (fun v wx => ∃ q : Bool, v = .bool (!q) ∧ (q = true ↔ LubOk cs (da, sa.data.toList) (db, sb.data.toList)) ∧ Three w da db sa sb wx)
 case first =>
  by_cases ha : hasT cs (da, sa.data.toList)
  ·have HAt := Lib.hid (fun W hb => HA.out true (by simp [ha]) W hb)
   go_wp2_with fail
   refine (HAt.out _ TW.out.two.below).mono ?_
   rintro e w1 ⟨rfl, hb1⟩
   have T1 := Lib.hid (TW.out.next hb1)
   clear hb1
   have b0 := T1.out.two.b0
   have b1 := T1.out.two.b1
   by_cases hb : hasT cs (db, sb.data.toList)
   ·have HBt := Lib.hid (fun W hb' => HBB.out true (by simp [hb]) W hb')
    go_wp2_with fail
    refine (HBt.out _ T1.out.two.below).mono ?_
    rintro e w2 ⟨rfl, hb2⟩
    have T2 := Lib.hid (T1.out.next hb2)
    clear hb2 b0 b1
    have a0 := T2.out.two.a0
    have a1 := T2.out.two.a1
    have hIA : (decide (da = 0 ∧ sa.toList = [])) = decide ((da, sa.data.toList) = intT) := by
     rw [Lib.toList_data, decide_eq_decide]
     unfold intT
     rw [Prod.mk.injEq]
    have hIB : (decide (db = 0 ∧ sb.toList = [])) = decide ((db, sb.data.toList) = intT) := by
     rw [Lib.toList_data, decide_eq_decide]
     unfold intT
     rw [Prod.mk.injEq]
    rw [hIA] at IA
    rw [hIB] at IB
    clear hIA hIB
    by_cases ia : (da, sa.data.toList) = intT
    ·rw [decide_eq_true ia] at IA
     have IAA := Lib.hid ia
     clear ia
     go_wp2_with fail
     refine (IA.out _).mono ?_
     rintro e w3 ⟨rfl, hb3⟩
     have T3 := Lib.hid (T2.out.next hb3)
     clear hb3
     go_wp2
     go_meet
     case rel => exact ⟨false, rfl, ⟨fun h => (by cases h), fun h => absurd IAA.out h.2.2.1⟩, T3.out⟩
    ·rw [decide_eq_false ia] at IA
     have IAA := Lib.hid ia
     clear ia
     go_wp2_with fail
     refine (IA.out _).mono ?_
     rintro e w3 ⟨rfl, hb3⟩
     have T3 := Lib.hid (T2.out.next hb3)
     clear hb3 a0 a1
     have b0 := T3.out.two.b0
     have b1 := T3.out.two.b1
     by_cases ib : (db, sb.data.toList) = intT
     ·rw [decide_eq_true ib] at IB
      have IBB := Lib.hid ib
      clear ib
      go_wp2_with fail
      refine (IB.out _).mono ?_
      rintro e w4 ⟨rfl, hb4⟩
      have T4 := Lib.hid (T3.out.next hb4)
      clear hb4
      go_wp2
      go_meet
      case rel => exact ⟨false, rfl, ⟨fun h => (by cases h), fun h => absurd IBB.out h.2.2.2⟩, T4.out⟩
     ·rw [decide_eq_false ib] at IB
      have IBB := Lib.hid ib
      clear ib
      go_wp2_with fail
      refine (IB.out _).mono ?_
      rintro e w4 ⟨rfl, hb4⟩
      have T4 := Lib.hid (T3.out.next hb4)
      clear hb4
      go_wp2
      go_meet
      case rel => exact ⟨true, rfl, ⟨fun _ => ⟨ha, hb, IAA.out, IBB.out⟩, fun _ => rfl⟩, T4.out⟩
   ·have HBt := Lib.hid (fun W hb' => HBB.out false (by simp [hb]) W hb')
    go_wp2_with fail
    refine (HBt.out _ T1.out.two.below).mono ?_
    rintro e w2 ⟨rfl, hb2⟩
    have T2 := Lib.hid (T1.out.next hb2)
    clear hb2
    go_wp2
    go_meet
    case rel => exact ⟨false, rfl, ⟨fun h => (by cases h), fun h => absurd h.2.1 hb⟩, T2.out⟩
  ·have HAf := Lib.hid (fun W hb => HA.out false (by simp [ha]) W hb)
   go_wp2_with fail
   refine (HAf.out _ TW.out.two.below).mono ?_
   rintro e w1 ⟨rfl, hb1⟩
   have T1 := Lib.hid (TW.out.next hb1)
   clear hb1
   go_wp2
   go_meet
   case rel => exact ⟨false, rfl, ⟨fun h => (by cases h), fun h => absurd h.1 ha⟩, T1.out⟩
 obtain ⟨q, rfl, hq, ht⟩ := hcut
 have T0 := Lib.hid ht
 have HQ := Lib.hid hq
 clear ht hq
 cases q with
 | false =>
  have hbox := T0.out.box
  have r0 := kcells_of hbox 0
  have r1 := kcells_of hbox 1
  have rf := kfree_of hbox
  simp only [List.getElem?_toArray, List.getElem?_cons_succ, List.getElem?_cons_zero] at r0 r1
  have hlt := lt_of_block hbox
  clear hbox
  go_wp2
  obtain ⟨z0, z1, hbe⟩ := lub_ret T0.out 0 ⟨#[]⟩
  refine bodyPost_ret (v := .tuple #[.agg #[.int .i64 0, .string ⟨#[]⟩], .bool false]) (by simp [results, Tryz.results21, go_sem, z0, z1]) rfl ?_
  exact ⟨0, ⟨#[]⟩, false, rfl, HQ.out, fun h => (by cases h), fun _ => ⟨rfl, rfl⟩, (by decide), hbe⟩
 | true =>
  have HL := Lib.hid (HQ.out.1 rfl)
  have a0 := T0.out.two.a0
  have a1 := T0.out.two.a1
  have b0 := T0.out.two.b0
  have b1 := T0.out.two.b1
  have r0 := kcells_of T0.out.box 0
  have r1 := kcells_of T0.out.box 1
  have rf := kfree_of T0.out.box
  simp only [List.getElem?_toArray, List.getElem?_cons_succ, List.getElem?_cons_zero] at r0 r1
  have hlt := lt_of_block T0.out.box
  have heq := eql31 da db sa sb
  go_upto_region 3 with fail
  go_cut [32] (fun v wx => v = .bool (decide (da = db) && decide (sa.data.toList = sb.data.toList)) ∧ wx = wc)
  case first =>
   go_wp2
   go_meet
   case rel => exact ⟨by first | rfl | simp [hst], rfl⟩
  obtain ⟨rfl, hwc⟩ := hcut
  subst hwc
  by_cases he : (decide (da = db) && decide (sa.data.toList = sb.data.toList)) = true
  ·rw [he]
   have HE := Lib.hid he
   clear he heq
   go_wp2
   obtain ⟨z0, z1, hbe⟩ := lub_ret T0.out da sa
   refine bodyPost_ret (v := .tuple #[.agg #[.int .i64 da, .string sa], .bool true]) (by simp [results, Tryz.results21, go_sem, z0, z1]) rfl ?_
   have := HE.out
   simp only [Bool.and_eq_true, decide_eq_true_eq] at this
   obtain ⟨ha, hb, NA, NB⟩ := HL.out
   refine ⟨da, sa, true, rfl, ⟨fun _ => HL.out, fun _ => rfl⟩, fun _ => ?_, fun h => (by cases h), hsa, hbe⟩
   rw [← this.1, ← this.2, lubT_self G ha NA]
  ·have HNE := Lib.hid (show (da, sa.data.toList) ≠ (db, sb.data.toList) from fun h => he (by injection h with h1 h2; rw [h1, h2]; simp))
   rw [Bool.eq_false_iff.2 he]
   clear he heq
   obtain ⟨ha, hb, NA, NB⟩ := HL.out
   clear r0 r1 rf hlt
   by_cases hdd : 0 < da ∧ 0 < db
   ·obtain ⟨hda, hdb⟩ := hdd
    have hda4 : da ≤ 4 := ha.2.1
    have hdb4 : db ≤ 4 := hb.2.1
    have hda0 : -1000000 ≤ da := by omega
    have hdb0 : -1000000 ≤ db := by omega
    have ELEM := Lib.hid (lubT_elem G ha hb hda hdb HNE.out)
    go_upto_region 6 with fail
    go_cut [8, 9] (fun v8 v9 wx => ∃ (x : Nat) (d : Int) (s : ByteArray) (ok : Bool), v8 = .pointer (some ⟨x, 0, none⟩) ∧ v9 = .bool ok ∧ wx.heap[x]? = some (.cells #[.int .i64 d, .string s] 31 (0, 0)) ∧ w.heap.size + 1 + 1 < x ∧ (ok = true ↔ LubOk cs (da - 1, sa.data.toList) (db - 1, sb.data.toList)) ∧ (ok = true → (d, s.data.toList) = lubT cs (da - 1, sa.data.toList) (db - 1, sb.data.toList)) ∧ s.size ≤ 1000000 ∧ Three w da db sa sb wx)
    case first =>
     have hla := lt_of_cell a0
     have hlb := lt_of_cell b0
     have hlt := lt_of_block T0.out.box
     have ELa := Lib.hid (fun W => element_any da sa hda0 (by omega) W)
     have ELb := Lib.hid (fun W => element_any db sb hdb0 (by omega) W)
     have LU := Lib.hid (fun W (hb : Below wc.heap.size wc W) => IHH.out HL.out hda hdb W (H.out.below ((T0.out.next hb).two.below.mono H.out.hB)))
     refine wp_region_held_drew (S := fun w' => Below wc.heap.size wc w') (by kernel_rfl) (Below.refl _ _).drew (fun hS0 => ?_)
     refine wpAnyH_take (i := 0) (oi := _) (v := ?v1) rfl (by kernel_rfl) (by kernel_rfl) (by kernel_rfl) (fun _ _ _ h => h) (Or.inl ⟨by rfl, ?hy1⟩) hS0 ?_
     case hy1 => (intro V hSw; go_simp; try with_reducible rfl)
     try simp only [pu0, puN, pu1, pu2, pu3]
     refine wpAnyH_take (i := 1) (oi := _) (v := ?v2) rfl (by kernel_rfl) (by kernel_rfl) (by kernel_rfl) (fun _ _ _ h => h) (Or.inl ⟨by rfl, ?hy2⟩) hS0 ?_
     case hy2 => (intro V hSw; have e0 := qkeepc hSw hla a0; have e1 := qkeepc hSw hla a1; have e2 := qkeepc hSw hlb b0; have e3 := qkeepc hSw hlb b1; go_simp; try with_reducible rfl)
     try simp only [pu0, puN, pu1, pu2, pu3]
     refine wpAnyH_take (i := 3) (oi := _) (v := ?v3) rfl (by kernel_rfl) (by kernel_rfl) (by kernel_rfl) (fun _ _ _ h => h) (Or.inl ⟨by rfl, ?hy3⟩) hS0 ?_
     case hy3 => (intro V hSw; have e0 := qkeepc hSw hla a0; have e1 := qkeepc hSw hla a1; have e2 := qkeepc hSw hlb b0; have e3 := qkeepc hSw hlb b1; go_simp; try with_reducible rfl)
     try simp only [pu0, puN, pu1, pu2, pu3]
     refine wpAnyH_ready (rs := [2, 9]) (by kernel_rfl) (by simp) ?_
     refine (AllReadyH.cons (o := _) rfl (fun K hK => ?_) (AllReadyH.cons (o := _) rfl (fun K hK => ?_) AllReadyH.nil))
     ·go_simp
      go_at_call 67
      refine (ELa.out _).mono ?_
      rintro e wi0 ⟨rfl, hb0⟩
      try go_wp2_with fail
      refine hK.out _ _ (Below.hlink hS0 hb0) (fun hS1 => ?_)
      clear hK K
      try simp only [pu0, puN, pu1, pu2, pu3]
      refine wpAnyH_ready (rs := [4, 9]) (by kernel_rfl) (by simp) ?_
      refine (AllReadyH.cons (o := _) rfl (fun K hK => ?_) (AllReadyH.cons (o := _) rfl (fun K hK => ?_) AllReadyH.nil))
      ·go_simp
       go_at_call 67
       refine (ELb.out _).mono ?_
       rintro e wi1 ⟨rfl, hb1⟩
       try go_wp2_with fail
       refine hK.out _ _ (Below.hlink hS1 hb1) (fun hS2 => ?_)
       clear hK K
       try simp only [pu0, puN, pu1, pu2, pu3]
       refine wpAnyH_ready (rs := [5, 9]) (by kernel_rfl) (by simp) ?_
       refine (AllReadyH.cons (o := _) rfl (fun K hK => ?_) (AllReadyH.cons (o := _) rfl (fun K hK => ?_) AllReadyH.nil))
       ·go_simp
        go_at_call 21
        refine (LU.out _ hS2).mono ?_
        rintro e wi2 ⟨d, s, ok, rfl, o1, o2, o3, o4, hb2⟩
        have O1 := Lib.hid o1
        have O2 := Lib.hid o2
        clear o1 o2 o3
        try go_wp2_with fail
        refine hK.out _ _ (Below.hlink hS2 hb2) (fun hS3 => ?_)
        clear hK K
        try simp only [pu0, puN, pu1, pu2, pu3]
        refine wpAnyH_take (i := 6) (oi := _) (v := ?v4) rfl (by kernel_rfl) (by kernel_rfl) (by kernel_rfl) (fun _ _ _ h => h) (Or.inl ⟨by rfl, ?hy4⟩) hS3 ?_
        case hy4 => (intro V hSw; go_simp; try with_reducible rfl)
        try simp only [pu0, puN, pu1, pu2, pu3]
        refine wpAnyH_take (i := 7) (oi := _) (v := ?v5) rfl (by kernel_rfl) (by kernel_rfl) (by kernel_rfl) (fun _ _ _ h => h) (Or.inl ⟨by rfl, ?hy5⟩) hS3 ?_
        case hy5 => (intro V hSw; go_simp; try with_reducible rfl)
        try simp only [pu0, puN, pu1, pu2, pu3]
        refine wpAnyH_take (i := 8) (oi := _) (v := ?v6) rfl (by kernel_rfl) (by kernel_rfl) (by kernel_rfl) (fun _ _ _ h => h) (Or.inl ⟨by rfl, ?hy6⟩) hS3 ?_
        case hy6 => (intro V hSw; go_simp; try with_reducible rfl)
        try simp only [pu0, puN, pu1, pu2, pu3]
        refine wpAnyH_ready (rs := [9]) (by kernel_rfl) (by simp) ?_
        refine (AllReadyH.cons (o := _) rfl (fun K hK => ?_) AllReadyH.nil)
        go_simp
        refine hK.out _ _ (Below.alloc hS3 (Below.size hS3) _) (fun hS4 => ?_)
        clear hK K
        try simp only [pu0, puN, pu1, pu2, pu3]
        refine wpAnyH_ready (rs := [10]) (by kernel_rfl) (by simp) ?_
        refine (AllReadyH.cons (o := _) rfl (fun K hK => ?_) AllReadyH.nil)
        go_simp
        refine hK.out _ _ (Below.alloc hS3 hS3.size _) (fun hS5 => ?_)
        clear hK K
        try simp only [pu0, puN, pu1, pu2, pu3]
        refine wpAnyH_take (i := 11) (oi := ({ dst := some 9, op := Op.assign (Operand.tmp 54), type := 4, pos := "hier.go:106", after := #[{ on := 8, ground := Ground.data }, { on := 10, ground := Ground.chain }, { on := 0, ground := Ground.phase }, { on := 1, ground := Ground.phase }, { on := 2, ground := Ground.phase }, { on := 3, ground := Ground.phase }, { on := 4, ground := Ground.phase }, { on := 5, ground := Ground.phase }, { on := 6, ground := Ground.phase }, { on := 7, ground := Ground.phase }, { on := 8, ground := Ground.phase }, { on := 9, ground := Ground.phase }, { on := 10, ground := Ground.phase }], guard := none } : Oper)) (v := ?v7) rfl (by kernel_rfl) (by kernel_rfl) (by kernel_rfl) (fun _ _ _ h => h) (Or.inl ⟨by rfl, ?hy7⟩) hS5 ?_
        case hy7 => (intro V hSw; go_simp; try with_reducible rfl)
        try simp only [pu0, puN, pu1, pu2, pu3]
        refine wpAnyH_done (by kernel_rfl) ?_ _
        go_wp2
        go_meet
        case rel => exact ⟨_, d, s, ok, rfl, rfl, hheap_new _ _, Nat.lt_of_lt_of_le hlt hS3.size, O1.out, O2.out, o4, T0.out.next hS5⟩
       ·go_simp
        refine hK.out _ _ (Below.alloc hS2 (Below.size hS2) _) (fun hS3 => ?_)
        clear hK K
        try simp only [pu0, puN, pu1, pu2, pu3]
        refine wpAnyH_ready (rs := [5]) (by kernel_rfl) (by simp) ?_
        refine (AllReadyH.cons (o := _) rfl (fun K hK => ?_) AllReadyH.nil)
        go_simp
        go_at_call 21
        refine (LU.out _ hS3).mono ?_
        rintro e wi2 ⟨d, s, ok, rfl, o1, o2, o3, o4, hb2⟩
        have nb := lalloc_facts hb2
        have n0 := kcells_of nb 0
        have n1 := kcells_of nb 1
        have fz := kfree_of nb
        simp only [List.getElem?_toArray, List.getElem?_cons_succ, List.getElem?_cons_zero] at n0 n1
        have O1 := Lib.hid o1
        have O2 := Lib.hid o2
        clear o1 o2 o3
        try go_wp2_with fail
        refine hK.out _ _ (Below.hlink hS3 hb2) (fun hS4 => ?_)
        clear hK K
        try simp only [pu0, puN, pu1, pu2, pu3]
        refine wpAnyH_take (i := 6) (oi := _) (v := ?v8) rfl (by kernel_rfl) (by kernel_rfl) (by kernel_rfl) (fun _ _ _ h => h) (Or.inl ⟨by rfl, ?hy8⟩) hS4 ?_
        case hy8 => (intro V hSw; go_simp; try with_reducible rfl)
        try simp only [pu0, puN, pu1, pu2, pu3]
        refine wpAnyH_take (i := 7) (oi := _) (v := ?v9) rfl (by kernel_rfl) (by kernel_rfl) (by kernel_rfl) (fun _ _ _ h => h) (Or.inl ⟨by rfl, ?hy9⟩) hS4 ?_
        case hy9 => (intro V hSw; go_simp; try with_reducible rfl)
        try simp only [pu0, puN, pu1, pu2, pu3]
        refine wpAnyH_take (i := 8) (oi := _) (v := ?v10) rfl (by kernel_rfl) (by kernel_rfl) (by kernel_rfl) (fun _ _ _ h => h) (Or.inl ⟨by rfl, ?hy10⟩) hS4 ?_
        case hy10 => (intro V hSw; go_simp; try with_reducible rfl)
        try simp only [pu0, puN, pu1, pu2, pu3]
        refine wpAnyH_ready (rs := [10]) (by kernel_rfl) (by simp) ?_
        refine (AllReadyH.cons (o := _) rfl (fun K hK => ?_) AllReadyH.nil)
        go_simp
        refine hK.out _ _ ((hS4.setCell (p := ⟨wi1.heap.size, 0, none⟩) (by exact hS2.size) _).setCell (p := ⟨wi1.heap.size, 1, none⟩) (by exact hS2.size) _) (fun hS6 => ?_)
        clear hK K
        try simp only [pu0, puN, pu1, pu2, pu3]
        refine wpAnyH_take (i := 11) (oi := ({ dst := some 9, op := Op.assign (Operand.tmp 54), type := 4, pos := "hier.go:106", after := #[{ on := 8, ground := Ground.data }, { on := 10, ground := Ground.chain }, { on := 0, ground := Ground.phase }, { on := 1, ground := Ground.phase }, { on := 2, ground := Ground.phase }, { on := 3, ground := Ground.phase }, { on := 4, ground := Ground.phase }, { on := 5, ground := Ground.phase }, { on := 6, ground := Ground.phase }, { on := 7, ground := Ground.phase }, { on := 8, ground := Ground.phase }, { on := 9, ground := Ground.phase }, { on := 10, ground := Ground.phase }], guard := none } : Oper)) (v := ?v11) rfl (by kernel_rfl) (by kernel_rfl) (by kernel_rfl) (fun _ _ _ h => h) (Or.inl ⟨by rfl, ?hy11⟩) hS6 ?_
        case hy11 => (intro V hSw; go_simp; try with_reducible rfl)
        try simp only [pu0, puN, pu1, pu2, pu3]
        refine wpAnyH_done (by kernel_rfl) ?_ _
        go_wp2
        go_meet
        case rel => exact ⟨_, d, s, ok, rfl, rfl, set2 nb _ _, Nat.lt_of_lt_of_le hlt (hS2.size), O1.out, O2.out, o4, T0.out.next hS6⟩
      ·go_simp
       refine hK.out _ _ (Below.alloc hS1 (Below.size hS1) _) (fun hS2 => ?_)
       clear hK K
       try simp only [pu0, puN, pu1, pu2, pu3]
       refine wpAnyH_ready (rs := [4]) (by kernel_rfl) (by simp) ?_
       refine (AllReadyH.cons (o := _) rfl (fun K hK => ?_) AllReadyH.nil)
       go_simp
       go_at_call 67
       refine (ELb.out _).mono ?_
       rintro e wi1 ⟨rfl, hb1⟩
       have nb := lalloc_facts hb1
       try go_wp2_with fail
       refine hK.out _ _ (Below.hlink hS2 hb1) (fun hS3 => ?_)
       clear hK K
       try simp only [pu0, puN, pu1, pu2, pu3]
       refine wpAnyH_ready (rs := [5]) (by kernel_rfl) (by simp) ?_
       refine (AllReadyH.cons (o := _) rfl (fun K hK => ?_) AllReadyH.nil)
       go_simp
       go_at_call 21
       refine (LU.out _ hS3).mono ?_
       rintro e wi2 ⟨d, s, ok, rfl, o1, o2, o3, o4, hb2⟩
       have nb := lkeep_facts hb2 nb
       have n0 := kcells_of nb 0
       have n1 := kcells_of nb 1
       have fz := kfree_of nb
       simp only [List.getElem?_toArray, List.getElem?_cons_succ, List.getElem?_cons_zero] at n0 n1
       have O1 := Lib.hid o1
       have O2 := Lib.hid o2
       clear o1 o2 o3
       try go_wp2_with fail
       refine hK.out _ _ (Below.hlink hS3 hb2) (fun hS4 => ?_)
       clear hK K
       try simp only [pu0, puN, pu1, pu2, pu3]
       refine wpAnyH_take (i := 6) (oi := _) (v := ?v12) rfl (by kernel_rfl) (by kernel_rfl) (by kernel_rfl) (fun _ _ _ h => h) (Or.inl ⟨by rfl, ?hy12⟩) hS4 ?_
       case hy12 => (intro V hSw; go_simp; try with_reducible rfl)
       try simp only [pu0, puN, pu1, pu2, pu3]
       refine wpAnyH_take (i := 7) (oi := _) (v := ?v13) rfl (by kernel_rfl) (by kernel_rfl) (by kernel_rfl) (fun _ _ _ h => h) (Or.inl ⟨by rfl, ?hy13⟩) hS4 ?_
       case hy13 => (intro V hSw; go_simp; try with_reducible rfl)
       try simp only [pu0, puN, pu1, pu2, pu3]
       refine wpAnyH_take (i := 8) (oi := _) (v := ?v14) rfl (by kernel_rfl) (by kernel_rfl) (by kernel_rfl) (fun _ _ _ h => h) (Or.inl ⟨by rfl, ?hy14⟩) hS4 ?_
       case hy14 => (intro V hSw; go_simp; try with_reducible rfl)
       try simp only [pu0, puN, pu1, pu2, pu3]
       refine wpAnyH_ready (rs := [10]) (by kernel_rfl) (by simp) ?_
       refine (AllReadyH.cons (o := _) rfl (fun K hK => ?_) AllReadyH.nil)
       go_simp
       refine hK.out _ _ ((hS4.setCell (p := ⟨wi0.heap.size, 0, none⟩) (by exact hS1.size) _).setCell (p := ⟨wi0.heap.size, 1, none⟩) (by exact hS1.size) _) (fun hS6 => ?_)
       clear hK K
       try simp only [pu0, puN, pu1, pu2, pu3]
       refine wpAnyH_take (i := 11) (oi := ({ dst := some 9, op := Op.assign (Operand.tmp 54), type := 4, pos := "hier.go:106", after := #[{ on := 8, ground := Ground.data }, { on := 10, ground := Ground.chain }, { on := 0, ground := Ground.phase }, { on := 1, ground := Ground.phase }, { on := 2, ground := Ground.phase }, { on := 3, ground := Ground.phase }, { on := 4, ground := Ground.phase }, { on := 5, ground := Ground.phase }, { on := 6, ground := Ground.phase }, { on := 7, ground := Ground.phase }, { on := 8, ground := Ground.phase }, { on := 9, ground := Ground.phase }, { on := 10, ground := Ground.phase }], guard := none } : Oper)) (v := ?v15) rfl (by kernel_rfl) (by kernel_rfl) (by kernel_rfl) (fun _ _ _ h => h) (Or.inl ⟨by rfl, ?hy15⟩) hS6 ?_
       case hy15 => (intro V hSw; go_simp; try with_reducible rfl)
       try simp only [pu0, puN, pu1, pu2, pu3]
       refine wpAnyH_done (by kernel_rfl) ?_ _
       go_wp2
       go_meet
       case rel => exact ⟨_, d, s, ok, rfl, rfl, set2 nb _ _, Nat.lt_of_lt_of_le hlt (hS1.size), O1.out, O2.out, o4, T0.out.next hS6⟩
     ·go_simp
      refine hK.out _ _ (Below.alloc hS0 (Below.size hS0) _) (fun hS1 => ?_)
      clear hK K
      try simp only [pu0, puN, pu1, pu2, pu3]
      refine wpAnyH_ready (rs := [2]) (by kernel_rfl) (by simp) ?_
      refine (AllReadyH.cons (o := _) rfl (fun K hK => ?_) AllReadyH.nil)
      go_simp
      go_at_call 67
      refine (ELa.out _).mono ?_
      rintro e wi0 ⟨rfl, hb0⟩
      have nb := lalloc_facts0 hb0
      try go_wp2_with fail
      refine hK.out _ _ (Below.hlink hS1 hb0) (fun hS2 => ?_)
      clear hK K
      try simp only [pu0, puN, pu1, pu2, pu3]
      refine wpAnyH_ready (rs := [4]) (by kernel_rfl) (by simp) ?_
      refine (AllReadyH.cons (o := _) rfl (fun K hK => ?_) AllReadyH.nil)
      go_simp
      go_at_call 67
      refine (ELb.out _).mono ?_
      rintro e wi1 ⟨rfl, hb1⟩
      have nb := lkeep_facts hb1 nb
      try go_wp2_with fail
      refine hK.out _ _ (Below.hlink hS2 hb1) (fun hS3 => ?_)
      clear hK K
      try simp only [pu0, puN, pu1, pu2, pu3]
      refine wpAnyH_ready (rs := [5]) (by kernel_rfl) (by simp) ?_
      refine (AllReadyH.cons (o := _) rfl (fun K hK => ?_) AllReadyH.nil)
      go_simp
      go_at_call 21
      refine (LU.out _ hS3).mono ?_
      rintro e wi2 ⟨d, s, ok, rfl, o1, o2, o3, o4, hb2⟩
      have nb := lkeep_facts hb2 nb
      have n0 := kcells_of nb 0
      have n1 := kcells_of nb 1
      have fz := kfree_of nb
      simp only [List.getElem?_toArray, List.getElem?_cons_succ, List.getElem?_cons_zero] at n0 n1
      have O1 := Lib.hid o1
      have O2 := Lib.hid o2
      clear o1 o2 o3
      try go_wp2_with fail
      refine hK.out _ _ (Below.hlink hS3 hb2) (fun hS4 => ?_)
      clear hK K
      try simp only [pu0, puN, pu1, pu2, pu3]
      refine wpAnyH_take (i := 6) (oi := _) (v := ?v16) rfl (by kernel_rfl) (by kernel_rfl) (by kernel_rfl) (fun _ _ _ h => h) (Or.inl ⟨by rfl, ?hy16⟩) hS4 ?_
      case hy16 => (intro V hSw; go_simp; try with_reducible rfl)
      try simp only [pu0, puN, pu1, pu2, pu3]
      refine wpAnyH_take (i := 7) (oi := _) (v := ?v17) rfl (by kernel_rfl) (by kernel_rfl) (by kernel_rfl) (fun _ _ _ h => h) (Or.inl ⟨by rfl, ?hy17⟩) hS4 ?_
      case hy17 => (intro V hSw; go_simp; try with_reducible rfl)
      try simp only [pu0, puN, pu1, pu2, pu3]
      refine wpAnyH_take (i := 8) (oi := _) (v := ?v18) rfl (by kernel_rfl) (by kernel_rfl) (by kernel_rfl) (fun _ _ _ h => h) (Or.inl ⟨by rfl, ?hy18⟩) hS4 ?_
      case hy18 => (intro V hSw; go_simp; try with_reducible rfl)
      try simp only [pu0, puN, pu1, pu2, pu3]
      refine wpAnyH_ready (rs := [10]) (by kernel_rfl) (by simp) ?_
      refine (AllReadyH.cons (o := _) rfl (fun K hK => ?_) AllReadyH.nil)
      go_simp
      refine hK.out _ _ ((hS4.setCell (p := ⟨wc.heap.size, 0, none⟩) (by exact Nat.le_refl _) _).setCell (p := ⟨wc.heap.size, 1, none⟩) (by exact Nat.le_refl _) _) (fun hS6 => ?_)
      clear hK K
      try simp only [pu0, puN, pu1, pu2, pu3]
      refine wpAnyH_take (i := 11) (oi := ({ dst := some 9, op := Op.assign (Operand.tmp 54), type := 4, pos := "hier.go:106", after := #[{ on := 8, ground := Ground.data }, { on := 10, ground := Ground.chain }, { on := 0, ground := Ground.phase }, { on := 1, ground := Ground.phase }, { on := 2, ground := Ground.phase }, { on := 3, ground := Ground.phase }, { on := 4, ground := Ground.phase }, { on := 5, ground := Ground.phase }, { on := 6, ground := Ground.phase }, { on := 7, ground := Ground.phase }, { on := 8, ground := Ground.phase }, { on := 9, ground := Ground.phase }, { on := 10, ground := Ground.phase }], guard := none } : Oper)) (v := ?v19) rfl (by kernel_rfl) (by kernel_rfl) (by kernel_rfl) (fun _ _ _ h => h) (Or.inl ⟨by rfl, ?hy19⟩) hS6 ?_
      case hy19 => (intro V hSw; go_simp; try with_reducible rfl)
      try simp only [pu0, puN, pu1, pu2, pu3]
      refine wpAnyH_done (by kernel_rfl) ?_ _
      go_wp2
      go_meet
      case rel => exact ⟨_, d, s, ok, rfl, rfl, set2 nb _ _, Nat.lt_of_lt_of_le hlt (Nat.le_refl _), O1.out, O2.out, o4, T0.out.next hS6⟩
    obtain ⟨x, d, s, ok, rfl, rfl, hx, hltx, o1, o2, o4, ht⟩ := hcut
    have T5 := Lib.hid ht
    have O1 := Lib.hid o1
    have O2 := Lib.hid o2
    have HX := Lib.hid hx
    have ha' : hasT cs (da - 1, sa.data.toList) := ⟨by show 0 ≤ da - 1; omega, by show da - 1 ≤ 4; omega, ha.2.2⟩
    have hb' : hasT cs (db - 1, sb.data.toList) := ⟨by show 0 ≤ db - 1; omega, by show db - 1 ≤ 4; omega, hb.2.2⟩
    have x0 := kcells_of hx 0
    have x1 := kcells_of hx 1
    have xf := kfree_of hx
    simp only [List.getElem?_toArray, List.getElem?_cons_succ, List.getElem?_cons_zero] at x0 x1
    have hxl := lt_of_block hx
    clear ht o1 o2 hx a0 a1 b0 b1
    cases ok with
    | true =>
     obtain ⟨q1, q2, q3, q4⟩ := O1.out.1 rfl
     obtain ⟨n1, n2, _⟩ := nd_lub G q1 q2 q3 q4
     have hd := O2.out rfl
     rw [← hd] at n1
     have hd1 : 0 ≤ d := n1.1
     have hd2 : d ≤ 4 := n1.2.1
     have HD := Lib.hid hd
     have HP := Lib.hid (show lubT cs (da, sa.data.toList) (db, sb.data.toList) = (d + 1, s.data.toList) by
      rw [ELEM.out, if_neg (by rintro (h | h); exact q3 h; exact q4 h), ← hd])
     have T6 := Lib.hid (T5.out.set hltx 0 (.int .i64 (d + 1)))
     have y0 := kcells_of (heap_set_eq (i := 0) (u := .int .i64 (d + 1)) HX.out) 0
     have y1 := kcells_of (heap_set_eq (i := 0) (u := .int .i64 (d + 1)) HX.out) 1
     have r0 := kcells_of T6.out.box 0
     have r1 := kcells_of T6.out.box 1
     have rf := kfree_of T6.out.box
     have hlt := lt_of_block T6.out.box
     simp only [Array.setIfInBounds, List.getElem?_toArray, List.getElem?_cons_succ, List.getElem?_cons_zero] at r0 r1
     clear q1 q2 q3 q4 n1 n2 hd
     go_wp2
     obtain ⟨z0, z1, hbe⟩ := lub_ret T6.out (d + 1) s
     refine bodyPost_ret (v := .tuple #[.agg #[.int .i64 (d + 1), .string s], .bool true]) (by simp [results, Tryz.results21, go_sem, z0, z1]) rfl ?_
     exact ⟨d + 1, s, true, rfl, ⟨fun _ => HL.out, fun _ => rfl⟩, fun _ => HP.out.symm, fun h => (by cases h), o4, hbe⟩
    | false =>
     have HP := Lib.hid (show lubT cs (da, sa.data.toList) (db, sb.data.toList) = objT by
      rw [ELEM.out, if_pos]
      apply Classical.byContradiction
      intro hn
      have : false = true := O1.out.2 ⟨ha', hb', fun h => hn (.inl h), fun h => hn (.inr h)⟩
      cases this)
     go_wp2_with fail
     refine (typeObject_any _).mono ?_
     rintro e wj ⟨rfl, hbj⟩
     have TJ := Lib.hid (T5.out.next (w' := wj) ⟨hbj.os, hbj.tape, hbj.output, hbj.size, hbj.block⟩)
     clear hbj
     have r0 := kcells_of TJ.out.box 0
     have r1 := kcells_of TJ.out.box 1
     have rf := kfree_of TJ.out.box
     simp only [List.getElem?_toArray, List.getElem?_cons_succ, List.getElem?_cons_zero] at r0 r1
     have hlt := lt_of_block TJ.out.box
     go_wp2
     obtain ⟨z0, z1, hbe⟩ := lub_ret TJ.out 0 ⟨#[79, 98, 106, 101, 99, 116]⟩
     refine bodyPost_ret (v := .tuple #[.agg #[.int .i64 0, .string ⟨#[79, 98, 106, 101, 99, 116]⟩], .bool true]) (by simp [results, Tryz.results21, go_sem, z0, z1]) rfl ?_
     exact ⟨0, _, true, rfl, ⟨fun _ => HL.out, fun _ => rfl⟩, fun _ => HP.out.symm, fun h => (by cases h), (by decide), hbe⟩
   ·have hda0 : 0 ≤ da := ha.1
    have hdb0 : 0 ≤ db := hb.1
    by_cases hz : da = 0 ∧ db = 0
    ·obtain ⟨rfl, rfl⟩ := hz
     have hsa0 : sa.data.toList ≠ [] := fun h => NA (by rw [h]; rfl)
     have hsb0 : sb.data.toList ≠ [] := fun h => NB (by rw [h]; rfl)
     obtain ⟨i, hi⟩ := Option.ne_none_iff_exists'.1 (ha.2.2.resolve_left hsa0)
     obtain ⟨j, hj⟩ := Option.ne_none_iff_exists'.1 (hb.2.2.resolve_left hsb0)
     have hW := H.out.below (T0.out.two.below.mono H.out.hB)
     have m1 : wc.cell? ⟨tb, 1, none⟩ = some (.map (some mb)) := by rw [kcells_of hW.t0]; rfl
     have lka : (Instr.lookup 110 (.map (some mb)) (.string sa) false).run Tryz.prog wc.drew = .ok (.pointer (some ⟨cl i, 0, none⟩)) wc.drew := by
      have := (hW.map.same (w' := wc.drew) rfl).look sa (by omega)
      rw [hi] at this
      exact this
     have lkb : (Instr.lookup 110 (.map (some mb)) (.string sb) false).run Tryz.prog wc.drew = .ok (.pointer (some ⟨cl j, 0, none⟩)) wc.drew := by
      have := (hW.map.same (w' := wc.drew) rfl).look sb (by omega)
      rw [hj] at this
      exact this
     have HI1 := Lib.hid hi
     have HJ1 := Lib.hid hj
     have hil := ix_lt hi
     have hjl := ix_lt hj
     clear hW hi hj hdd hsa0 hsb0
     go_upto_region 11 with fail
     go_cut [10, 11] (fun v10 v11 wx => v10 = .pointer (some ⟨cl i, 0, none⟩) ∧ v11 = .pointer (some ⟨cl j, 0, none⟩) ∧ Three w 0 0 sa sb wx)
     case first =>
      go_region
      all_goals (try go_wp2)
      all_goals (go_meet; case rel => exact ⟨rfl, rfl, T0.out.next (Below.refl _ _).drew⟩)
     obtain ⟨rfl, rfl, ht⟩ := hcut
     have T5 := Lib.hid ht
     clear ht lka lkb m1 a0 a1 b0 b1
     have hW := H.out.below (T5.out.two.below.mono H.out.hB)
     obtain ⟨ci, hci, hni⟩ := ix_some HI1.out
     obtain ⟨cj, hcj, hnj⟩ := ix_some HJ1.out
     obtain ⟨k, k1, k2, _⟩ := hW.cls hci
     obtain ⟨l, l1, l2, _⟩ := hW.cls hcj
     have jI : isJ cs i = k.iface := by unfold isJ; rw [hci]; exact k2.nmd.ifc.symm
     have jJ : isJ cs j = l.iface := by unfold isJ; rw [hcj]; exact l2.nmd.ifc.symm
     have k3 : wc.cell? ⟨cl i, 3, none⟩ = some (.bool (isJ cs i)) := by rw [jI]; exact k1.cell 3
     have l3 : wc.cell? ⟨cl j, 3, none⟩ = some (.bool (isJ cs j)) := by rw [jJ]; exact l1.cell 3
     have hij : i ≠ j := fun e => by
      subst e
      rw [hci] at hcj
      cases hcj
      exact HNE.out (by have e : sa.data.toList = sb.data.toList := hni.symm.trans hnj; rw [e])
     clear jI jJ k1 k2 l1 l2 hci hcj hni hnj hW
     cases hI : isJ cs i with
     | true =>
      rw [hI] at k3
      have HP := Lib.hid (lubT_ifc G (a := (0, sa.data.toList)) (b := (0, sb.data.toList)) rfl rfl HI1.out HJ1.out hij (.inl hI))
      clear hI hij
      go_wp2_with fail
      refine (typeObject_any _).mono ?_
      rintro e wj ⟨rfl, hbj⟩
      have TJ := Lib.hid (T5.out.next (w' := wj) ⟨hbj.os, hbj.tape, hbj.output, hbj.size, hbj.block⟩)
      clear hbj
      have r0 := kcells_of TJ.out.box 0
      have r1 := kcells_of TJ.out.box 1
      have rf := kfree_of TJ.out.box
      simp only [List.getElem?_toArray, List.getElem?_cons_succ, List.getElem?_cons_zero] at r0 r1
      have hlt := lt_of_block TJ.out.box
      go_wp2
      obtain ⟨z0, z1, hbe⟩ := lub_ret TJ.out 0 ⟨#[79, 98, 106, 101, 99, 116]⟩
      refine bodyPost_ret (v := .tuple #[.agg #[.int .i64 0, .string ⟨#[79, 98, 106, 101, 99, 116]⟩], .bool true]) (by simp [results, Tryz.results21, go_sem, z0, z1]) rfl ?_
      exact ⟨0, _, true, rfl, ⟨fun _ => HL.out, fun _ => rfl⟩, fun _ => HP.out.symm, fun h => (by cases h), (by decide), hbe⟩
     | false =>
      rw [hI] at k3
      cases hJ : isJ cs j with
      | true =>
       rw [hJ] at l3
       have HP := Lib.hid (lubT_ifc G (a := (0, sa.data.toList)) (b := (0, sb.data.toList)) rfl rfl HI1.out HJ1.out hij (.inr hJ))
       clear hI hJ hij
       go_wp2_with fail
       refine (typeObject_any _).mono ?_
       rintro e wj ⟨rfl, hbj⟩
       have TJ := Lib.hid (T5.out.next (w' := wj) ⟨hbj.os, hbj.tape, hbj.output, hbj.size, hbj.block⟩)
       clear hbj
       have r0 := kcells_of TJ.out.box 0
       have r1 := kcells_of TJ.out.box 1
       have rf := kfree_of TJ.out.box
       simp only [List.getElem?_toArray, List.getElem?_cons_succ, List.getElem?_cons_zero] at r0 r1
       have hlt := lt_of_block TJ.out.box
       go_wp2
       obtain ⟨z0, z1, hbe⟩ := lub_ret TJ.out 0 ⟨#[79, 98, 106, 101, 99, 116]⟩
       refine bodyPost_ret (v := .tuple #[.agg #[.int .i64 0, .string ⟨#[79, 98, 106, 101, 99, 116]⟩], .bool true]) (by simp [results, Tryz.results21, go_sem, z0, z1]) rfl ?_
       exact ⟨0, _, true, rfl, ⟨fun _ => HL.out, fun _ => rfl⟩, fun _ => HP.out.symm, fun h => (by cases h), (by decide), hbe⟩
      | false =>
       rw [hJ] at l3
       have hW := H.out.below (T5.out.two.below.mono H.out.hB)
       have CM := Lib.hid (common_any G hW.tab rfl hW.exact (fun _ _ => rfl) hil hjl hI)
       have hml := (mt_is G hil hjl).2
       have HP := Lib.hid (lubT_class G (a := (0, sa.data.toList)) (b := (0, sb.data.toList)) rfl rfl HI1.out HJ1.out)
       obtain ⟨cm, hcm⟩ : ∃ c, cs[mt cs i j]? = some c := ⟨_, List.getElem?_eq_getElem hml⟩
       obtain ⟨km, m1, m2, _⟩ := hW.cls hcm
       have mn : wc.cell? ⟨cl (mt cs i j), 0, none⟩ = some (.string km.name) := m1.cell 0
       have HCM := Lib.hid hcm
       have HMN := Lib.hid m2.nmd.nm
       have HMZ := Lib.hid m2.nmd.nsz
       generalize mt cs i j = q at CM hml HP hcm mn HCM m1
       clear hI hJ hij hW hcm m1 m2
       go_wp2_with fail
       refine CM.out.mono ?_
       rintro e w6 ⟨rfl, m, rfl⟩
       have T6 := Lib.hid (T5.out.next (w' := wc.drewN m) ⟨rfl, rfl, rfl, Nat.le_refl _, fun _ _ => rfl⟩)
       have r0 := kcells_of T6.out.box 0
       have r1 := kcells_of T6.out.box 1
       have rf := kfree_of T6.out.box
       simp only [List.getElem?_toArray, List.getElem?_cons_succ, List.getElem?_cons_zero] at r0 r1
       have hlt := lt_of_block T6.out.box
       go_wp2
       obtain ⟨z0, z1, hbe⟩ := lub_ret T6.out 0 km.name
       refine bodyPost_ret (v := .tuple #[.agg #[.int .i64 0, .string km.name], .bool true]) (by simp [results, Tryz.results21, go_sem, z0, z1]) rfl ?_
       refine ⟨0, km.name, true, rfl, ⟨fun _ => HL.out, fun _ => rfl⟩, fun _ => ?_, fun h => (by cases h), HMZ.out, hbe⟩
       rw [HP.out]
       unfold tyOf
       simp only [HCM.out, HMN.out]
       rfl
    ·have HP := Lib.hid (lubT_mixed G ha hb NA (by simpa using hdd) (by simpa using hz))
     by_cases hd0 : da = 0
     ·subst hd0
      have hdb1 : 0 < db := by omega
      have hdb2 : (db == 0) = false := by simp; omega
      clear hdd hz
      go_wp2_with fail
      refine (typeObject_any _).mono ?_
      rintro e wj ⟨rfl, hbj⟩
      have TJ := Lib.hid (T0.out.next (w' := wj) ⟨hbj.os, hbj.tape, hbj.output, hbj.size, hbj.block⟩)
      clear hbj
      have r0 := kcells_of TJ.out.box 0
      have r1 := kcells_of TJ.out.box 1
      have rf := kfree_of TJ.out.box
      simp only [List.getElem?_toArray, List.getElem?_cons_succ, List.getElem?_cons_zero] at r0 r1
      have hlt := lt_of_block TJ.out.box
      go_wp2
      obtain ⟨z0, z1, hbe⟩ := lub_ret TJ.out 0 ⟨#[79, 98, 106, 101, 99, 116]⟩
      refine bodyPost_ret (v := .tuple #[.agg #[.int .i64 0, .string ⟨#[79, 98, 106, 101, 99, 116]⟩], .bool true]) (by simp [results, Tryz.results21, go_sem, z0, z1]) rfl ?_
      exact ⟨0, _, true, rfl, ⟨fun _ => HL.out, fun _ => rfl⟩, fun _ => HP.out.symm, fun h => (by cases h), (by decide), hbe⟩
     ·have hd1 : 0 < da := by omega
      have hd2 : (da == 0) = false := by simp; omega
      have hd3 : ¬ 0 < db := fun h => hdd ⟨hd1, h⟩
      clear hdd hz
      go_wp2_with fail
      refine (typeObject_any _).mono ?_
      rintro e wj ⟨rfl, hbj⟩
      have TJ := Lib.hid (T0.out.next (w' := wj) ⟨hbj.os, hbj.tape, hbj.output, hbj.size, hbj.block⟩)
      clear hbj
      have r0 := kcells_of TJ.out.box 0
      have r1 := kcells_of TJ.out.box 1
      have rf := kfree_of TJ.out.box
      simp only [List.getElem?_toArray, List.getElem?_cons_succ, List.getElem?_cons_zero] at r0 r1
      have hlt := lt_of_block TJ.out.box
      go_wp2
      obtain ⟨z0, z1, hbe⟩ := lub_ret TJ.out 0 ⟨#[79, 98, 106, 101, 99, 116]⟩
      refine bodyPost_ret (v := .tuple #[.agg #[.int .i64 0, .string ⟨#[79, 98, 106, 101, 99, 116]⟩], .bool true]) (by simp [results, Tryz.results21, go_sem, z0, z1]) rfl ?_
      exact ⟨0, _, true, rfl, ⟨fun _ => HL.out, fun _ => rfl⟩, fun _ => HP.out.symm, fun h => (by cases h), (by decide), hbe⟩
/-- Lub: the least type above two. -/
theorem Lub_upto : ∀ (n : Nat) (da db : Int) (sa sb : ByteArray) (w : World), HT B tb mb A cap ow cs cl sl S w → da ≤ n → sa.size ≤ 1000000 → sb.size ≤ 1000000 →
  Calls Tryz.prog 21 #[.pointer (some ⟨tb, 0, none⟩), .agg #[.int .i64 da, .string sa], .agg #[.int .i64 db, .string sb]] w fun e w' => LubAns cs (da, sa.data.toList) (db, sb.data.toList) w w' e
 | 0, da, db, sa, sb, w, h, hd, hsa, hsb => Lub_step h hsa hsb fun _ h1 _ => absurd h1 (by omega)
 | n + 1, da, db, sa, sb, w, h, hd, hsa, hsb => Lub_step h hsa hsb fun _ _ _ W hW => Lub_upto n (da - 1) (db - 1) sa sb W hW (by omega) hsa hsb
theorem Lub_any {da db : Int} {sa sb : ByteArray} {w : World} (h : HT B tb mb A cap ow cs cl sl S w) (hsa : sa.size ≤ 1000000) (hsb : sb.size ≤ 1000000) :
  Calls Tryz.prog 21 #[.pointer (some ⟨tb, 0, none⟩), .agg #[.int .i64 da, .string sa], .agg #[.int .i64 db, .string sb]] w fun e w' => LubAns cs (da, sa.data.toList) (db, sb.data.toList) w w' e :=
 Lub_upto da.toNat da db sa sb w h (by omega) hsa hsb
end
end Go.Proofs.YtmaknddlgppinaaGreatDoor
