/-
  CUT and joined from the texts of this seat: E5 A2 E6 E7 E8
-/
import Derived.Test.YtmaknddlgppinaaGreatDoorZ22
import Derived.Test.YtmaknddlgppinaaGreatDoorZ01
import Derived.Test.YtmaknddlgppinaaGreatDoorZ21
import Derived.Deep.LoopGhost
import Derived.Lib.AppendStr
import Derived.Laws.BitsAllLaws
set_option linter.unusedVariables false
set_option linter.unusedSimpArgs false
namespace Go.Proofs.YtmaknddlgppinaaGreatDoor
open Go.RowKit
def sameN (p : List Cn) (a b : Mb) : Bool := decide (textP p a.nm = textP p b.nm)
def sameD (p : List Cn) (a b : Mb) : Bool := decide (textP p a.ds = textP p b.ds)
def sameM (p : List Cn) (a b : Mb) : Bool := sameN p a b && sameD p a b
theorem le_alloc {B : Nat} {w : World} (h : B ≤ w.heap.size) (o : Obj) : B ≤ (w.alloc o).heap.size := by simp; omega
/-- A member's box. -/
def MBox (b : Nat) (m : Mb) (A : Option Addr) (c : Nat) (w : World) : Prop := w.heap[b]? = some (.cells #[.int .i64 m.fl, .int .i64 m.nm, .int .i64 m.ds, .int .i64 m.ms, .int .i64 m.ml, .string m.code, .slice A m.hs.length c] 141 (0, 0))
section
variable {b : Nat} {m : Mb} {A : Option Addr} {c : Nat} {w : World}
theorem MBox.lt (h : MBox b m A c w) : b < w.heap.size := lt_of_block h
theorem MBox.alloc (h : MBox b m A c w) (o : Obj) : MBox b m A c (w.alloc o) := heap_alloc_lt h
theorem MBox.below {w' : World} {B : Nat} (h : MBox b m A c w) (hb : Below B w w') (hB : b < B) : MBox b m A c w' := Below.keep hb hB h
theorem MBox.drew (h : MBox b m A c w) : MBox b m A c w.drew := h
theorem MBox.cells (h : MBox b m A c w) : w.cell? ⟨b, 0, none⟩ = some (.int .i64 m.fl) ∧ w.cell? ⟨b, 1, none⟩ = some (.int .i64 m.nm) ∧ w.cell? ⟨b, 2, none⟩ = some (.int .i64 m.ds) ∧ w.cell? ⟨b, 3, none⟩ = some (.int .i64 m.ms) ∧
  w.cell? ⟨b, 4, none⟩ = some (.int .i64 m.ml) ∧ w.cell? ⟨b, 5, none⟩ = some (.string m.code) ∧ w.cell? ⟨b, 6, none⟩ = some (.slice A m.hs.length c) :=
 ⟨cells_of h 0, cells_of h 1, cells_of h 2, cells_of h 3, cells_of h 4, cells_of h 5, cells_of h 6⟩
end
theorem MBox.new (m : Mb) (A : Option Addr) (c : Nat) (w : World) : MBox w.heap.size m A c (w.alloc (.cells #[.int .i64 m.fl, .int .i64 m.nm, .int .i64 m.ds, .int .i64 m.ms, .int .i64 m.ml, .string m.code, .slice A m.hs.length c] 141)) := heap_new w _
def linksN (is : List Int) : List UInt8 := is.flatMap (beN 2)
theorem linksN_length (is : List Int) : (linksN is).length = 2 * is.length := by
 induction is with
 | nil => rfl
 | cons x r ih => 
  have : linksN (x :: r) = beN 2 x ++ linksN r := rfl
  rw [this, List.length_append, beN_length, ih, List.length_cons]
  omega
theorem linksN_next {is : List Int} {k : Nat} {x : Int} (hx : is[k]? = some x) : linksN (is.take (k + 1)) = linksN (is.take k) ++ beN 2 x := by
 obtain ⟨hk, rfl⟩ := List.getElem?_eq_some_iff.1 hx
 unfold linksN
 rw [List.take_succ_eq_append_getElem hk, List.flatMap_append]
 simp
set_option maxRecDepth 1000000 in
set_option maxHeartbeats 6400000 in
theorem appendLinks_any (is : List Int) (hn : is.length ≤ 1000) (I : Nat) (v : Value) (l : List UInt8) (base : Nat) (w : World) (hI : w.heap[I]? = some (.cells (iccells is).toArray 3 (0, 0))) (hown : OwnB w base v l) (hl : l.length ≤ 900000000) (hb : base ≤ w.heap.size) :
  Calls Tryz.prog 161 #[v, .slice (some ⟨I, 0, none⟩) is.length is.length] w fun e w' => ∃ v', e = .returned v' ∧ OwnB w' base v' (l ++ linksN is) ∧ Kept base w w' := by
 have HO := Lib.hid hown
 have HI := Lib.hid hI
 have HX := Lib.hid (show ∀ (W : World), W.heap[I]? = some (.cells (iccells is).toArray 3 (0, 0)) → ∀ k x, is[k]? = some x → W.cell? ⟨I, k, none⟩ = some (.int .i64 x) from fun W h k x hx => by
  rw [cells_of h k]
  unfold iccells
  simp [hx])
 clear hown hI
 go_enter Tryz.func161, Tryz.ntmps161
 go_wp2
 go_loopg [0, 9] is.length (fun g bv iv wx => ∃ k : Nat, iv = .int .i64 k ∧ k + g = is.length ∧ OwnB wx base bv (l ++ linksN (is.take k)) ∧ wx.heap[I]? = some (.cells (iccells is).toArray 3 (0, 0)) ∧ Kept base w wx)
 case atStart => exact ⟨0, rfl, by omega, by simp [linksN]; exact HO.out, HI.out, Kept.refl _ _⟩
 case round =>
  obtain ⟨k, rfl, hkg, hown, hi, hk⟩ := hrel
  have HO1 := Lib.hid hown
  have HI1 := Lib.hid hi
  have HK1 := Lib.hid hk
  have hsz := hk.size
  clear hown hi hk
  by_cases hlt : k < is.length
  ·have hgg : gk - 1 < gk := by omega
   obtain ⟨x, hx⟩ : ∃ x, is[k]? = some x := ⟨_, List.getElem?_eq_getElem hlt⟩
   have x0 := HX.out _ HI1.out k x hx
   have HN := Lib.hid (linksN_next hx)
   have hll : (l ++ linksN (is.take k)).length ≤ 1000000000 := by rw [List.length_append, linksN_length, List.length_take]; omega
   have HC := Lib.hid (appendNumber_2 x _ _ base wr HO1.out hll (by omega))
   clear hx hll
   go_wp2_with fail
   refine HC.out.mono ?_
   rintro e w1 ⟨v1, rfl, hown, hk⟩
   have HO2 := Lib.hid hown
   have HI2 := Lib.hid (hk.other _ _ _ _ (by decide) HI1.out)
   have HK2 := Lib.hid (HK1.out.trans hk)
   clear hown hk x0
   go_wp2
   go_roundg (gk - 1)
   case measure => exact hgg
   case rel => exact ⟨k + 1, by go_num, by omega, by rw [HN.out, ← List.append_assoc]; exact HO2.out, HI2.out, HK2.out⟩
  ·have HF := Lib.hid (show OwnB wr base _ (l ++ linksN is) by have := HO1.out; rwa [List.take_of_length_le (by omega)] at this)
   go_wp2
   go_ret
   exact ⟨_, rfl, HF.out, HK1.out⟩
def textN (s : ByteArray) : List UInt8 := beN 2 s.size ++ L s
set_option maxRecDepth 1000000 in
set_option maxHeartbeats 6400000 in
theorem appendText_any (s : ByteArray) (hs : s.size ≤ 100000) (v : Value) (l : List UInt8) (base : Nat) (w : World) (hown : OwnB w base v l) (hl : l.length ≤ 900000000) (hb : base ≤ w.heap.size) :
  Calls Tryz.prog 186 #[v, .string s] w fun e w' => ∃ v', e = .returned v' ∧ OwnB w' base v' (l ++ textN s) ∧ Kept base w w' := by
 obtain ⟨i0, hi, hz0, hz1, hz2⟩ := info_parts Tryz.info5
 have HC := Lib.hid (appendNumber_2 (s.size : Int) v l base w hown (by omega) hb)
 have HS := Lib.hid (size_L s)
 clear hown
 go_enter Tryz.func186, Tryz.ntmps186
 go_wp2_with fail
 refine HC.out.mono ?_
 rintro e w1 ⟨v1, rfl, hown, hk⟩
 have HO1 := Lib.hid hown
 have HK1 := Lib.hid hk
 have hsz := hk.size
 clear hown hk
 go_wp2_with (at_builtin; refine Lib.wpList_append_own_string w1 rfl (.tmp 8) (.tmp 9) 166 9 rfl base 5 i0 Tryz.underlying166 Tryz.underlying9 hi hz0 hz1 hz2 _ _ _ rfl HO1.out.app s rfl ?c1 ?c2 ?c3 ?_)
 case c1 => unfold maxLen; simp only [List.length_append, beN_length]; omega
 case c2 => simp only [List.length_append, beN_length]; omega
 case c3 => omega
 intro v2 w2 hown2 hg2 _
 have HO2 := Lib.hid (show OwnB w2 base v2 (l ++ textN s) by
  unfold OwnB textN
  rw [← List.append_assoc, bcells_append (l ++ beN 2 s.size), List.length_append, List.length_append, ← HS.out]
  exact hown2)
 have HK2 := Lib.hid (HK1.out.trans (HO1.out.grown0 (by omega) hg2))
 clear hown2 hg2
 go_wp2
 go_ret
 exact ⟨_, rfl, HO2.out, HK2.out⟩
def hdlN (h : Hd) : List UInt8 := linksN [h.fr, h.to, h.at_, h.cl]
set_option maxRecDepth 1000000 in
set_option maxHeartbeats 6400000 in
theorem appendHandler_any (h : Hd) (v : Value) (l : List UInt8) (base : Nat) (w : World) (hown : OwnB w base v l) (hl : l.length ≤ 800000000) (hb : base ≤ w.heap.size) :
  Calls Tryz.prog 188 #[v, .agg #[.int .i64 h.fr, .int .i64 h.to, .int .i64 h.at_, .int .i64 h.cl]] w fun e w' => ∃ v', e = .returned v' ∧ OwnB w' base v' (l ++ hdlN h) ∧ Kept base w w' := by
 have HO := Lib.hid ((hown.alloc (.cells #[.int .i64 h.fr, .int .i64 h.to, .int .i64 h.at_, .int .i64 h.cl] 170)).alloc (.cells #[.int .i64 h.fr, .int .i64 h.to, .int .i64 h.at_, .int .i64 h.cl] 3))
 have HK := Lib.hid (((Kept.refl base w).alloc hb (.cells #[.int .i64 h.fr, .int .i64 h.to, .int .i64 h.at_, .int .i64 h.cl] 170)).alloc (le_alloc hb _) (.cells #[.int .i64 h.fr, .int .i64 h.to, .int .i64 h.at_, .int .i64 h.cl] 3))
 have HC := Lib.hid (fun v W I => appendLinks_any [h.fr, h.to, h.at_, h.cl] (by simp) I v l base W)
 have HI := Lib.hid (heap_new2 w (.cells #[.int .i64 h.fr, .int .i64 h.to, .int .i64 h.at_, .int .i64 h.cl] 170) (.cells #[.int .i64 h.fr, .int .i64 h.to, .int .i64 h.at_, .int .i64 h.cl] 3))
 clear hown
 go_enter Tryz.func188, Tryz.ntmps188
 go_wp2_with fail
 refine (HC.out _ _ (w.heap.size + 1) HI.out HO.out (by omega) (by simp; omega)).mono ?_
 rintro e w1 ⟨v1, rfl, hown, hk⟩
 have HO1 := Lib.hid hown
 have HK1 := Lib.hid (HK.out.trans hk)
 clear hown hk
 go_wp2
 go_ret
 exact ⟨_, rfl, HO1.out, HK1.out⟩
set_option maxRecDepth 1000000 in
set_option maxHeartbeats 6400000 in
theorem appendLink_any (x : Int) (v : Value) (l : List UInt8) (base : Nat) (w : World) (hown : OwnB w base v l) (hl : l.length ≤ 800000000) (hb : base ≤ w.heap.size) :
  Calls Tryz.prog 163 #[v, .int .i64 x] w fun e w' => ∃ v', e = .returned v' ∧ OwnB w' base v' (l ++ linksN [x]) ∧ Kept base w w' := by
 have HO := Lib.hid (hown.alloc (.cells #[.int .i64 x] 3))
 have HK := Lib.hid ((Kept.refl base w).alloc hb (.cells #[.int .i64 x] 3))
 have HC := Lib.hid (fun v W I => appendLinks_any [x] (by simp) I v l base W)
 have HI := Lib.hid (heap_new w (.cells #[.int .i64 x] 3))
 clear hown
 go_enter Tryz.func163, Tryz.ntmps163
 go_wp2_with fail
 refine (HC.out _ _ w.heap.size HI.out HO.out (by omega) (by simp; omega)).mono ?_
 rintro e w1 ⟨v1, rfl, hown, hk⟩
 have HO1 := Lib.hid hown
 have HK1 := Lib.hid (HK.out.trans hk)
 clear hown hk
 go_wp2
 go_ret
 exact ⟨_, rfl, HO1.out, HK1.out⟩
def headN (m : Mb) : List UInt8 := beN 1 m.fl ++ linksN [m.nm, m.ds]
set_option maxRecDepth 1000000 in
set_option maxHeartbeats 6400000 in
theorem appendHead_any (m : Mb) (A : Option Addr) (c : Nat) (v : Value) (l : List UInt8) (base : Nat) (w : World) (hown : OwnB w base v l) (hl : l.length ≤ 800000000) (hb : base ≤ w.heap.size) :
  Calls Tryz.prog 165 #[v, .agg #[.int .i64 m.fl, .int .i64 m.nm, .int .i64 m.ds, .int .i64 m.ms, .int .i64 m.ml, .string m.code, .slice A m.hs.length c]] w fun e w' => ∃ v', e = .returned v' ∧ OwnB w' base v' (l ++ headN m) ∧ Kept base w w' := by
 have HO := Lib.hid (hown.alloc (.cells #[.int .i64 m.fl, .int .i64 m.nm, .int .i64 m.ds, .int .i64 m.ms, .int .i64 m.ml, .string m.code, .slice A m.hs.length c] 141))
 have HK := Lib.hid ((Kept.refl base w).alloc hb (.cells #[.int .i64 m.fl, .int .i64 m.nm, .int .i64 m.ds, .int .i64 m.ms, .int .i64 m.ml, .string m.code, .slice A m.hs.length c] 141))
 have HN := Lib.hid (fun v W h h1 h2 => appendNumber_1 m.fl v l base W h h1 h2)
 have HL := Lib.hid (fun v W I => appendLinks_any [m.nm, m.ds] (by simp) I v (l ++ beN 1 m.fl) base W)
 have BM := Lib.hid (MBox.new m A c w)
 obtain ⟨m0, m1, m2, -, -, -, -⟩ := BM.out.cells
 clear hown
 go_enter Tryz.func165, Tryz.ntmps165
 go_wp2
 refine wp_region_held_drew (S := (fun w' => w'.heap[w.heap.size]? = some (.cells #[.int .i64 m.fl, .int .i64 m.nm, .int .i64 m.ds, .int .i64 m.ms, .int .i64 m.ml, .string m.code, .slice A m.hs.length c] 141 (0, 0)) ∧ w'.cell? ⟨w.heap.size, 0, none⟩ = some (.int .i64 m.fl) ∧ w'.cell? ⟨w.heap.size, 1, none⟩ = some (.int .i64 m.nm) ∧ w'.cell? ⟨w.heap.size, 2, none⟩ = some (.int .i64 m.ds) ∧ Kept base w w')) (by kernel_rfl) ⟨BM.out.drew, m0, m1, m2, HK.out.drew⟩ (fun hHeld => ?_)
 refine wpAnyH_take (i := 0) (oi := ({ dst := some 5, op := Op.move (Operand.tmp 0), type := 166, pos := "write.go:68", after := #[], guard := none } : Oper)) (v := ?v1x0) rfl (by kernel_rfl) (by kernel_rfl) (by kernel_rfl) (fun _ _ _ h => h) (Or.inl ⟨by rfl, ?hy1x0⟩) hHeld ?_
 case hy1x0 => ((intro w hSw); (try dsimp only at hSw); go_simp; try with_reducible rfl)
 try simp only [pu0, puN, pu1, pu2, pu3]
 refine wpAnyH_take (i := 1) (oi := ({ dst := some 6, op := Op.fieldAddr 141 (Operand.tmp 3) 0, type := 0, pos := "write.go:68", after := #[], guard := none } : Oper)) (v := ?v1x1) rfl (by kernel_rfl) (by kernel_rfl) (by kernel_rfl) (fun _ _ _ h => h) (Or.inl ⟨by rfl, ?hy1x1⟩) hHeld ?_
 case hy1x1 => ((intro w hSw); (try dsimp only at hSw); go_simp; try with_reducible rfl)
 try simp only [pu0, puN, pu1, pu2, pu3]
 refine wpAnyH_take (i := 2) (oi := ({ dst := some 7, op := Op.load 3 (Operand.tmp 6), type := 3, pos := "write.go:68", after := #[{ on := 1, ground := Ground.data }], guard := none } : Oper)) (v := ?v1x2) rfl (by kernel_rfl) (by kernel_rfl) (by kernel_rfl) (fun _ _ _ h => h) (Or.inl ⟨by rfl, ?hy1x2⟩) hHeld ?_
 case hy1x2 => ((intro w hSw); (try dsimp only at hSw); go_simp; try with_reducible rfl)
 try simp only [pu0, puN, pu1, pu2, pu3]
 refine wpAnyH_take (i := 4) (oi := ({ dst := some 9, op := Op.fieldAddr 141 (Operand.tmp 3) 1, type := 0, pos := "write.go:68", after := #[], guard := none } : Oper)) (v := ?v1x4) rfl (by kernel_rfl) (by kernel_rfl) (by kernel_rfl) (fun _ _ _ h => h) (Or.inl ⟨by rfl, ?hy1x4⟩) hHeld ?_
 case hy1x4 => ((intro w hSw); (try dsimp only at hSw); go_simp; try with_reducible rfl)
 try simp only [pu0, puN, pu1, pu2, pu3]
 refine wpAnyH_take (i := 5) (oi := ({ dst := some 10, op := Op.load 3 (Operand.tmp 9), type := 3, pos := "write.go:68", after := #[{ on := 4, ground := Ground.data }], guard := none } : Oper)) (v := ?v1x5) rfl (by kernel_rfl) (by kernel_rfl) (by kernel_rfl) (fun _ _ _ h => h) (Or.inl ⟨by rfl, ?hy1x5⟩) hHeld ?_
 case hy1x5 => ((intro w hSw); (try dsimp only at hSw); go_simp; try with_reducible rfl)
 try simp only [pu0, puN, pu1, pu2, pu3]
 refine wpAnyH_take (i := 6) (oi := ({ dst := some 11, op := Op.fieldAddr 141 (Operand.tmp 3) 2, type := 0, pos := "write.go:68", after := #[], guard := none } : Oper)) (v := ?v1x6) rfl (by kernel_rfl) (by kernel_rfl) (by kernel_rfl) (fun _ _ _ h => h) (Or.inl ⟨by rfl, ?hy1x6⟩) hHeld ?_
 case hy1x6 => ((intro w hSw); (try dsimp only at hSw); go_simp; try with_reducible rfl)
 try simp only [pu0, puN, pu1, pu2, pu3]
 refine wpAnyH_take (i := 7) (oi := ({ dst := some 12, op := Op.load 3 (Operand.tmp 11), type := 3, pos := "write.go:68", after := #[{ on := 6, ground := Ground.data }], guard := none } : Oper)) (v := ?v1x7) rfl (by kernel_rfl) (by kernel_rfl) (by kernel_rfl) (fun _ _ _ h => h) (Or.inl ⟨by rfl, ?hy1x7⟩) hHeld ?_
 case hy1x7 => ((intro w hSw); (try dsimp only at hSw); go_simp; try with_reducible rfl)
 try simp only [pu0, puN, pu1, pu2, pu3]
 refine wpAnyH_ready (rs := [3, 8]) (by kernel_rfl) (by simp) ?_
 refine AllReadyH.cons (o := ({ dst := some 8, op := Op.call { callee := Callee.value (Operand.func 160), args := #[Operand.tmp 5, Operand.const (Value.int IntKind.i64 1), Operand.tmp 7], argTypes := #[166, 3, 3] }, type := 166, pos := "write.go:68", after := #[{ on := 0, ground := Ground.data }, { on := 2, ground := Ground.data }], guard := none } : Oper)) rfl (fun K hK => ?_) (AllReadyH.cons (o := ({ dst := some 13, op := Op.buildSlice 29 2 #[(0, Operand.tmp 10), (1, Operand.tmp 12)], type := 29, pos := "write.go:68", after := #[{ on := 5, ground := Ground.data }, { on := 7, ground := Ground.data }], guard := none } : Oper)) rfl (fun K hK => ?_) AllReadyH.nil)
 ·go_simp
  go_at_call 160
  refine (HN.out _ (w.alloc (.cells #[.int .i64 m.fl, .int .i64 m.nm, .int .i64 m.ds, .int .i64 m.ms, .int .i64 m.ml, .string m.code, .slice A m.hs.length c] 141)).drew HO.out.drew (by omega) (show base ≤ (w.alloc (.cells #[.int .i64 m.fl, .int .i64 m.nm, .int .i64 m.ds, .int .i64 m.ms, .int .i64 m.ml, .string m.code, .slice A m.hs.length c] 141)).heap.size by simp; omega)).mono ?_
  rintro e w1 ⟨v1, rfl, hown1, hk1⟩
  try go_wp2_with fail
  have hM1 := hk1.other _ _ _ _ (by decide) hHeld.1
  have hK1 := hHeld.2.2.2.2.trans hk1
  refine hK.out _ _ ⟨hM1, cells_of hM1 0, cells_of hM1 1, cells_of hM1 2, hK1⟩ (fun hHeld2 => ?_)
  clear hK K hHeld
  try simp only [pu0, puN, pu1, pu2, pu3]
  refine wpAnyH_ready (rs := [8]) (by kernel_rfl) (by simp) ?_
  refine AllReadyH.cons (o := ({ dst := some 13, op := Op.buildSlice 29 2 #[(0, Operand.tmp 10), (1, Operand.tmp 12)], type := 29, pos := "write.go:68", after := #[{ on := 5, ground := Ground.data }, { on := 7, ground := Ground.data }], guard := none } : Oper)) rfl (fun K hK => ?_) AllReadyH.nil
  go_simp
  have hM2 := heap_alloc_lt (o := (.cells #[.int .i64 m.nm, .int .i64 m.ds] 3)) hM1
  refine hK.out _ _ ⟨hM2, cells_of hM2 0, cells_of hM2 1, cells_of hM2 2, hK1.alloc (by have := hK1.size; omega) _⟩ (fun hHeld3 => ?_)
  clear hK K hHeld2
  try simp only [pu0, puN, pu1, pu2, pu3]
  refine wpAnyH_ready (rs := [9]) (by kernel_rfl) (by simp) ?_
  refine AllReadyH.cons (o := ({ dst := some 14, op := Op.call { callee := Callee.value (Operand.func 161), args := #[Operand.tmp 8, Operand.tmp 13], argTypes := #[166, 29] }, type := 166, pos := "write.go:68", after := #[{ on := 3, ground := Ground.data }, { on := 8, ground := Ground.data }, { on := 3, ground := Ground.chain }], guard := none } : Oper)) rfl (fun K hK => ?_) AllReadyH.nil
  go_simp
  go_at_call 161
  refine (HL.out _ (w1.alloc (.cells #[.int .i64 m.nm, .int .i64 m.ds] 3)) w1.heap.size (heap_new _ _) (hown1.alloc _) (by rw [List.length_append, beN_length]; omega) (by have := hK1.size; simp; omega)).mono ?_
  rintro e w2 ⟨v2, rfl, hown2, hk2⟩
  try go_wp2_with fail
  have hM3 := hk2.other _ _ _ _ (by decide) hM2
  have hK3 := (hK1.alloc (by have := hK1.size; omega) (.cells #[.int .i64 m.nm, .int .i64 m.ds] 3)).trans hk2
  refine hK.out _ _ ⟨hM3, cells_of hM3 0, cells_of hM3 1, cells_of hM3 2, hK3⟩ (fun hHeld4 => ?_)
  clear hK K hHeld3
  try simp only [pu0, puN, pu1, pu2, pu3]
  refine wpAnyH_take (i := 10) (oi := ({ dst := some 4, op := Op.assign (Operand.tmp 14), type := 166, pos := "write.go:68", after := #[{ on := 9, ground := Ground.data }, { on := 9, ground := Ground.chain }, { on := 0, ground := Ground.phase }, { on := 1, ground := Ground.phase }, { on := 2, ground := Ground.phase }, { on := 3, ground := Ground.phase }, { on := 4, ground := Ground.phase }, { on := 5, ground := Ground.phase }, { on := 6, ground := Ground.phase }, { on := 7, ground := Ground.phase }, { on := 8, ground := Ground.phase }, { on := 9, ground := Ground.phase }], guard := none } : Oper)) (v := ?v1x10) rfl (by kernel_rfl) (by kernel_rfl) (by kernel_rfl) (fun _ _ _ h => h) (Or.inl ⟨by rfl, ?hy1x10⟩) hHeld4 ?_
  case hy1x10 => ((intro w hSw); (try dsimp only at hSw); go_simp; try with_reducible rfl)
  try simp only [pu0, puN, pu1, pu2, pu3]
  refine wpAnyH_done (by kernel_rfl) ?_ _
  have HO2 := Lib.hid hown2
  have HK2 := Lib.hid hK3
  clear hHeld4 hM3 hK3 hM2 hM1 hK1 hown1 hk1 hown2 hk2
  go_wp2
  go_ret
  exact ⟨_, rfl, by unfold headN; rw [← List.append_assoc]; exact HO2.out, HK2.out⟩
 ·go_simp
  have hM1 := heap_alloc_lt (o := (.cells #[.int .i64 m.nm, .int .i64 m.ds] 3)) hHeld.1
  have hK1 := hHeld.2.2.2.2.alloc (show base ≤ (w.alloc (.cells #[.int .i64 m.fl, .int .i64 m.nm, .int .i64 m.ds, .int .i64 m.ms, .int .i64 m.ml, .string m.code, .slice A m.hs.length c] 141)).drew.heap.size from (by show base ≤ (w.alloc (.cells #[.int .i64 m.fl, .int .i64 m.nm, .int .i64 m.ds, .int .i64 m.ms, .int .i64 m.ml, .string m.code, .slice A m.hs.length c] 141)).heap.size; simp; omega)) (.cells #[.int .i64 m.nm, .int .i64 m.ds] 3)
  refine hK.out _ _ ⟨hM1, cells_of hM1 0, cells_of hM1 1, cells_of hM1 2, hK1⟩ (fun hHeld2 => ?_)
  clear hK K hHeld
  try simp only [pu0, puN, pu1, pu2, pu3]
  refine wpAnyH_ready (rs := [3]) (by kernel_rfl) (by simp) ?_
  refine AllReadyH.cons (o := ({ dst := some 8, op := Op.call { callee := Callee.value (Operand.func 160), args := #[Operand.tmp 5, Operand.const (Value.int IntKind.i64 1), Operand.tmp 7], argTypes := #[166, 3, 3] }, type := 166, pos := "write.go:68", after := #[{ on := 0, ground := Ground.data }, { on := 2, ground := Ground.data }], guard := none } : Oper)) rfl (fun K hK => ?_) AllReadyH.nil
  go_simp
  go_at_call 160
  refine (HN.out _ ((w.alloc (.cells #[.int .i64 m.fl, .int .i64 m.nm, .int .i64 m.ds, .int .i64 m.ms, .int .i64 m.ml, .string m.code, .slice A m.hs.length c] 141)).drew.alloc (.cells #[.int .i64 m.nm, .int .i64 m.ds] 3)) (HO.out.drew.alloc _) (by omega) (show base ≤ ((w.alloc (.cells #[.int .i64 m.fl, .int .i64 m.nm, .int .i64 m.ds, .int .i64 m.ms, .int .i64 m.ml, .string m.code, .slice A m.hs.length c] 141)).drew.alloc (.cells #[.int .i64 m.nm, .int .i64 m.ds] 3)).heap.size by simp; omega)).mono ?_
  rintro e w1 ⟨v1, rfl, hown1, hk1⟩
  try go_wp2_with fail
  have hI1 : w1.heap[w.heap.size + 1]? = some (.cells (iccells [m.nm, m.ds]).toArray 3 (0, 0)) := hk1.other _ _ _ _ (by decide) (heap_new2 w (.cells #[.int .i64 m.fl, .int .i64 m.nm, .int .i64 m.ds, .int .i64 m.ms, .int .i64 m.ml, .string m.code, .slice A m.hs.length c] 141) (.cells #[.int .i64 m.nm, .int .i64 m.ds] 3))
  have hM2 := hk1.other _ _ _ _ (by decide) hM1
  have hK2 := hK1.trans hk1
  refine hK.out _ _ ⟨hM2, cells_of hM2 0, cells_of hM2 1, cells_of hM2 2, hK2⟩ (fun hHeld3 => ?_)
  clear hK K hHeld2
  try simp only [pu0, puN, pu1, pu2, pu3]
  refine wpAnyH_ready (rs := [9]) (by kernel_rfl) (by simp) ?_
  refine AllReadyH.cons (o := ({ dst := some 14, op := Op.call { callee := Callee.value (Operand.func 161), args := #[Operand.tmp 8, Operand.tmp 13], argTypes := #[166, 29] }, type := 166, pos := "write.go:68", after := #[{ on := 3, ground := Ground.data }, { on := 8, ground := Ground.data }, { on := 3, ground := Ground.chain }], guard := none } : Oper)) rfl (fun K hK => ?_) AllReadyH.nil
  go_simp
  go_at_call 161
  refine (HL.out _ w1 (w.heap.size + 1) hI1 hown1 (by rw [List.length_append, beN_length]; omega) (by have := hK2.size; omega)).mono ?_
  rintro e w2 ⟨v2, rfl, hown2, hk2⟩
  try go_wp2_with fail
  have hM3 := hk2.other _ _ _ _ (by decide) hM2
  have hK3 := hK2.trans hk2
  refine hK.out _ _ ⟨hM3, cells_of hM3 0, cells_of hM3 1, cells_of hM3 2, hK3⟩ (fun hHeld4 => ?_)
  clear hK K hHeld3
  try simp only [pu0, puN, pu1, pu2, pu3]
  refine wpAnyH_take (i := 10) (oi := ({ dst := some 4, op := Op.assign (Operand.tmp 14), type := 166, pos := "write.go:68", after := #[{ on := 9, ground := Ground.data }, { on := 9, ground := Ground.chain }, { on := 0, ground := Ground.phase }, { on := 1, ground := Ground.phase }, { on := 2, ground := Ground.phase }, { on := 3, ground := Ground.phase }, { on := 4, ground := Ground.phase }, { on := 5, ground := Ground.phase }, { on := 6, ground := Ground.phase }, { on := 7, ground := Ground.phase }, { on := 8, ground := Ground.phase }, { on := 9, ground := Ground.phase }], guard := none } : Oper)) (v := ?v2x10) rfl (by kernel_rfl) (by kernel_rfl) (by kernel_rfl) (fun _ _ _ h => h) (Or.inl ⟨by rfl, ?hy2x10⟩) hHeld4 ?_
  case hy2x10 => ((intro w hSw); (try dsimp only at hSw); go_simp; try with_reducible rfl)
  try simp only [pu0, puN, pu1, pu2, pu3]
  refine wpAnyH_done (by kernel_rfl) ?_ _
  have HO2 := Lib.hid hown2
  have HK2 := Lib.hid hK3
  clear hHeld4 hM3 hK3 hM2 hM1 hK1 hown1 hk1 hown2 hk2 hK2 hI1
  go_wp2
  go_ret
  exact ⟨_, rfl, by unfold headN; rw [← List.append_assoc]; exact HO2.out, HK2.out⟩
/-- The error of a member's flags, which go up to last, of its name, and of its descriptor. -/
def hdE (p : List Cn) (ffl last : Int) (E : ByteArray → Int) (m : Mb) : Int :=
 if m.fl < 0 ∨ last < m.fl ∨ (m.fl = 0 ∧ ffl = 3) then 10 else if tagged p m.nm 1 = true ∧ tagged p m.ds 1 = true then pairE p m.nm m.ds E else 7
def bareB (m : Mb) : Bool := decide (m.ms = 0) && decide (m.ml = 0) && decide (m.code.size = 0) && decide (m.hs.length = 0)
def extraE (m : Mb) : Int := if bareB m = true then 0 else 1
theorem str_nil {s : ByteArray} : (s.size = 0 ∧ s.toList = [] ∧ s.toList.isEmpty = true) ∨ (0 < s.size ∧ ¬ s.toList = [] ∧ s.toList.isEmpty = false) := by
 by_cases h : s.size = 0
 ·exact .inl ⟨h, nil_of0 h, emp_of0 h⟩
 ·exact .inr ⟨by omega, ne_ofpos (by omega), emp_ofpos (by omega)⟩
/-- The error of a constructor, or a class's initialiser, that is not of its form. -/
def initN : ByteArray := ⟨#[60, 105, 110, 105, 116, 62]⟩
def clinitN : ByteArray := ⟨#[60, 99, 108, 105, 110, 105, 116, 62]⟩
def voidD : ByteArray := ⟨#[40, 41, 86]⟩
def voidB (s : ByteArray) : Bool := (res (methL (L s))).2.2.1
def specE (p : List Cn) (m : Mb) : Int :=
 if textP p m.nm = initN then (if m.fl = 0 ∧ voidB (textP p m.ds) = true then 0 else 10)
 else if textP p m.nm = clinitN then (if m.fl = 1 ∧ textP p m.ds = voidD then 0 else 10) else 0
/-- The error of a row of an exception table, over code of n bytes; of a member's body. -/
def hdlE (p : List Cn) (n : Nat) (h : Hd) : Int :=
 if h.fr < 0 ∨ h.to ≤ h.fr ∨ (n : Int) < h.to ∨ h.at_ < 0 ∨ (n : Int) ≤ h.at_ then 1 else if noneB p h.cl = true then 0 else 7
def bodyE (p : List Cn) (m : Mb) : Int :=
 if m.fl = 2 then extraE m
 else if m.ms < 0 ∨ 64 < m.ms ∨ m.ml < 0 ∨ 64 < m.ml then 26
 else if m.code.size = 0 then 5
 else if 4096 < m.code.size then 2
 else if 32 < m.hs.length then 3
 else firstErr (hdlE p m.code.size) m.hs
theorem HRow.len {B : Nat} {w : World} {v : Value} {hs : List Hd} (h : HRow B w v hs) : hs.length ≤ 9223372036854775807 := by
 obtain ⟨_, _, _, _, h, _⟩ := h
 unfold maxLen at h
 exact h
end Go.Proofs.YtmaknddlgppinaaGreatDoor
