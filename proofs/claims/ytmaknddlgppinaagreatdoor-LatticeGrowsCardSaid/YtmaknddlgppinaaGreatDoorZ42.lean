/-
  CUT and joined from the texts of this seat: Mf
-/
import Derived.Test.YtmaknddlgppinaaGreatDoorZ01
import Derived.Test.YtmaknddlgppinaaGreatDoorZ32
import Derived.Deep.RegionHeld3
import Derived.Deep.DeepCutAuto
set_option linter.unusedVariables false
set_option linter.unusedSimpArgs false
namespace Go.Proofs.YtmaknddlgppinaaGreatDoor
open Go.RowKit
set_option maxRecDepth 1000000 in
set_option maxHeartbeats 6400000 in
theorem shown7_any {w : World} (hN : Blt w) :
  Calls Tryz.prog 33 #[] w fun e w' => e = .returned (.bool true) ∧ Below w.heap.size w w' := by
 have NN := Lib.hid (New_nil hN)
 clear hN
 go_enter Tryz.func33, Tryz.ntmps33
 go_wp2_with fail
 refine NN.out.mono ?_
 rintro e w1 ⟨⟨nb, mb, A, cap, cl, sl, S, rfl, ht⟩, hb1⟩
 have HT := Lib.hid ht
 have B1 := Lib.hid hb1
 have BU := Lib.hid (Below.refl w1.heap.size w1)
 clear ht hb1 NN
 go_upto_region 4 with fail
 go_cut [4] (fun v wx => ∃ b, v = .pointer (some ⟨b, 0, none⟩) ∧ wx.heap[b]? = some (.cells #[.int .i64 2, .int .i64 0, .string ⟨#[]⟩, .int .i64 0] 64 (0, 0)) ∧ Below w1.heap.size w1 wx)
 case first =>
  go_wp2
  go_meet
  case rel => exact ⟨_, rfl, hheap_new _ _, (Below.refl _ _).alloc (Nat.le_refl _) _⟩
 obtain ⟨b4, rfl, n4, hb4⟩ := hcut
 obtain ⟨w4, hw4⟩ : ∃ W, W = wc := ⟨_, rfl⟩
 subst hw4
 have BU' := Lib.hid (Below.hlink BU.out hb4)
 clear BU
 have BU := Lib.hid BU'.out
 clear BU'
 clear hb4
 go_upto_region 5 with fail
 go_cut [5] (fun v wx => ∃ b, v = .pointer (some ⟨b, 0, none⟩) ∧ wx.heap[b]? = some (.cells #[.int .i64 1, .int .i64 0, .string ⟨#[]⟩, .int .i64 0] 64 (0, 0)) ∧ Below w4.heap.size w4 wx)
 case first =>
  go_wp2
  go_meet
  case rel => exact ⟨_, rfl, hheap_new _ _, (Below.refl _ _).alloc (Nat.le_refl _) _⟩
 obtain ⟨b5, rfl, n5, hb5⟩ := hcut
 obtain ⟨w5, hw5⟩ : ∃ W, W = wc := ⟨_, rfl⟩
 subst hw5
 have BU' := Lib.hid (Below.hlink BU.out hb5)
 clear BU
 have BU := Lib.hid BU'.out
 clear BU'
 replace n4 := (hb5.block _ (lt_of_block n4)).trans n4
 clear hb5
 go_upto_region 6 with fail
 go_cut [6] (fun v wx => ∃ b, v = .pointer (some ⟨b, 0, none⟩) ∧ wx.heap[b]? = some (.cells #[.int .i64 4, .int .i64 0, .string ⟨#[]⟩, .int .i64 3] 64 (0, 0)) ∧ Below w5.heap.size w5 wx)
 case first =>
  go_wp2
  go_meet
  case rel => exact ⟨_, rfl, hheap_new _ _, (Below.refl _ _).alloc (Nat.le_refl _) _⟩
 obtain ⟨b6, rfl, n6, hb6⟩ := hcut
 obtain ⟨w6, hw6⟩ : ∃ W, W = wc := ⟨_, rfl⟩
 subst hw6
 have BU' := Lib.hid (Below.hlink BU.out hb6)
 clear BU
 have BU := Lib.hid BU'.out
 clear BU'
 replace n4 := (hb6.block _ (lt_of_block n4)).trans n4
 replace n5 := (hb6.block _ (lt_of_block n5)).trans n5
 clear hb6
 go_upto_region 7 with fail
 go_cut [7] (fun v wx => ∃ b, v = .pointer (some ⟨b, 0, none⟩) ∧ wx.heap[b]? = some (.cells #[.int .i64 4, .int .i64 0, .string ⟨#[]⟩, .int .i64 4] 64 (0, 0)) ∧ Below w6.heap.size w6 wx)
 case first =>
  go_wp2
  go_meet
  case rel => exact ⟨_, rfl, hheap_new _ _, (Below.refl _ _).alloc (Nat.le_refl _) _⟩
 obtain ⟨b7, rfl, n7, hb7⟩ := hcut
 obtain ⟨w7, hw7⟩ : ∃ W, W = wc := ⟨_, rfl⟩
 subst hw7
 have BU' := Lib.hid (Below.hlink BU.out hb7)
 clear BU
 have BU := Lib.hid BU'.out
 clear BU'
 replace n4 := (hb7.block _ (lt_of_block n4)).trans n4
 replace n5 := (hb7.block _ (lt_of_block n5)).trans n5
 replace n6 := (hb7.block _ (lt_of_block n6)).trans n6
 clear hb7
 go_upto_region 8 with fail
 go_cut [8] (fun v wx => ∃ b, v = .pointer (some ⟨b, 0, none⟩) ∧ wx.heap[b]? = some (.cells #[.int .i64 0, .int .i64 0, .string ⟨#[]⟩, .int .i64 0] 64 (0, 0)) ∧ Below w7.heap.size w7 wx)
 case first =>
  go_wp2
  go_meet
  case rel => exact ⟨_, rfl, hheap_new _ _, (Below.refl _ _).alloc (Nat.le_refl _) _⟩
 obtain ⟨b8, rfl, n8, hb8⟩ := hcut
 obtain ⟨w8, hw8⟩ : ∃ W, W = wc := ⟨_, rfl⟩
 subst hw8
 have BU' := Lib.hid (Below.hlink BU.out hb8)
 clear BU
 have BU := Lib.hid BU'.out
 clear BU'
 replace n4 := (hb8.block _ (lt_of_block n4)).trans n4
 replace n5 := (hb8.block _ (lt_of_block n5)).trans n5
 replace n6 := (hb8.block _ (lt_of_block n6)).trans n6
 replace n7 := (hb8.block _ (lt_of_block n7)).trans n7
 clear hb8
 have n40 := kcells_of n4 0
 have n41 := kcells_of n4 1
 have n42 := kcells_of n4 2
 have n43 := kcells_of n4 3
 simp only [List.getElem?_toArray, List.getElem?_cons_succ, List.getElem?_cons_zero] at n40 n41 n42 n43
 have l4 := lt_of_block n4
 clear n4
 have n50 := kcells_of n5 0
 have n51 := kcells_of n5 1
 have n52 := kcells_of n5 2
 have n53 := kcells_of n5 3
 simp only [List.getElem?_toArray, List.getElem?_cons_succ, List.getElem?_cons_zero] at n50 n51 n52 n53
 have l5 := lt_of_block n5
 clear n5
 have n60 := kcells_of n6 0
 have n61 := kcells_of n6 1
 have n62 := kcells_of n6 2
 have n63 := kcells_of n6 3
 simp only [List.getElem?_toArray, List.getElem?_cons_succ, List.getElem?_cons_zero] at n60 n61 n62 n63
 have l6 := lt_of_block n6
 clear n6
 have n70 := kcells_of n7 0
 have n71 := kcells_of n7 1
 have n72 := kcells_of n7 2
 have n73 := kcells_of n7 3
 simp only [List.getElem?_toArray, List.getElem?_cons_succ, List.getElem?_cons_zero] at n70 n71 n72 n73
 have l7 := lt_of_block n7
 clear n7
 have n80 := kcells_of n8 0
 have n81 := kcells_of n8 1
 have n82 := kcells_of n8 2
 have n83 := kcells_of n8 3
 simp only [List.getElem?_toArray, List.getElem?_cons_succ, List.getElem?_cons_zero] at n80 n81 n82 n83
 have l8 := lt_of_block n8
 clear n8
 have J0 := Lib.hid (fun W (hb : Below w8.heap.size w8 W) => (Join_any (w := W) (ka := 2) (da := 0) (na := 0) (sa := ⟨#[]⟩) (kb := 3) (db := 0) (nb := 0) (sb := ⟨#[83, 116, 114, 105, 110, 103]⟩) (HT.out.below ((Below.hlink BU.out hb).mono HT.out.hB)) (by decide) (by decide)).mono (fun e w' h => KAns.lit h 3 0 0 ⟨#[83, 116, 114, 105, 110, 103]⟩ jb0))
 have J1 := Lib.hid (fun W (hb : Below w8.heap.size w8 W) => (Join_any (w := W) (ka := 3) (da := 0) (na := 0) (sa := ⟨#[78, 117, 108, 108]⟩) (kb := 3) (db := 0) (nb := 0) (sb := ⟨#[65, 114, 105, 116, 104]⟩) (HT.out.below ((Below.hlink BU.out hb).mono HT.out.hB)) (by decide) (by decide)).mono (fun e w' h => KAns.lit h 3 0 0 ⟨#[84, 104, 114, 111, 119, 97, 98, 108, 101]⟩ jb1))
 have J2 := Lib.hid (fun W (hb : Below w8.heap.size w8 W) => (Join_any (w := W) (ka := 1) (da := 0) (na := 0) (sa := ⟨#[]⟩) (kb := 2) (db := 0) (nb := 0) (sb := ⟨#[]⟩) (HT.out.below ((Below.hlink BU.out hb).mono HT.out.hB)) (by decide) (by decide)).mono (fun e w' h => KAns.lit h 0 0 0 ⟨#[]⟩ jb2))
 have J3 := Lib.hid (fun W (hb : Below w8.heap.size w8 W) => (Join_any (w := W) (ka := 4) (da := 0) (na := 3) (sa := ⟨#[]⟩) (kb := 4) (db := 0) (nb := 3) (sb := ⟨#[]⟩) (HT.out.below ((Below.hlink BU.out hb).mono HT.out.hB)) (by decide) (by decide)).mono (fun e w' h => KAns.lit h 4 0 3 ⟨#[]⟩ jb3))
 have J4 := Lib.hid (fun W (hb : Below w8.heap.size w8 W) => (Join_any (w := W) (ka := 4) (da := 0) (na := 3) (sa := ⟨#[]⟩) (kb := 4) (db := 0) (nb := 4) (sb := ⟨#[]⟩) (HT.out.below ((Below.hlink BU.out hb).mono HT.out.hB)) (by decide) (by decide)).mono (fun e w' h => KAns.lit h 0 0 0 ⟨#[]⟩ jb4))
 have V0 := Lib.hid (fun W (hb : Below w8.heap.size w8 W) => (Below_any (w := W) (ka := 2) (da := 0) (na := 0) (sa := ⟨#[]⟩) (kb := 3) (db := 0) (nb := 0) (sb := ⟨#[83, 116, 114, 105, 110, 103]⟩) (HT.out.below ((Below.hlink BU.out hb).mono HT.out.hB)) (by decide) (by decide)).mono (fun e w' h => h.yes bb0))
 have V1 := Lib.hid (fun W (hb : Below w8.heap.size w8 W) => (Below_any (w := W) (ka := 3) (da := 0) (na := 0) (sa := ⟨#[78, 117, 108, 108]⟩) (kb := 3) (db := 0) (nb := 0) (sb := ⟨#[79, 98, 106, 101, 99, 116]⟩) (HT.out.below ((Below.hlink BU.out hb).mono HT.out.hB)) (by decide) (by decide)).mono (fun e w' h => h.yes bb1))
 have V2 := Lib.hid (fun W (hb : Below w8.heap.size w8 W) => (Below_any (w := W) (ka := 1) (da := 0) (na := 0) (sa := ⟨#[]⟩) (kb := 0) (db := 0) (nb := 0) (sb := ⟨#[]⟩) (HT.out.below ((Below.hlink BU.out hb).mono HT.out.hB)) (by decide) (by decide)).mono (fun e w' h => h.yes bb2))
 have V3 := Lib.hid (fun W (hb : Below w8.heap.size w8 W) => (Below_any (w := W) (ka := 4) (da := 0) (na := 3) (sa := ⟨#[]⟩) (kb := 3) (db := 0) (nb := 0) (sb := ⟨#[79, 98, 106, 101, 99, 116]⟩) (HT.out.below ((Below.hlink BU.out hb).mono HT.out.hB)) (by decide) (by decide)).mono (fun e w' h => h.no bb3))
 have q0 := fun V : World => (eql64 3 0 0 3 0 0 ⟨#[83, 116, 114, 105, 110, 103]⟩ ⟨#[83, 116, 114, 105, 110, 103]⟩ V).trans (by rw [decide_eq_true (by decide)])
 have q1 := fun V : World => (eql64 3 0 0 3 0 0 ⟨#[84, 104, 114, 111, 119, 97, 98, 108, 101]⟩ ⟨#[84, 104, 114, 111, 119, 97, 98, 108, 101]⟩ V).trans (by rw [decide_eq_true (by decide)])
 have q2 := fun V : World => (eql64 0 0 0 0 0 0 ⟨#[]⟩ ⟨#[]⟩ V).trans (by rw [decide_eq_true (by decide)])
 have q3 := fun V : World => (eql64 4 0 3 4 0 3 ⟨#[]⟩ ⟨#[]⟩ V).trans (by rw [decide_eq_true (by decide)])
 go_upto_region 9 with fail
 go_cut [9] (fun v wx => v = .bool true ∧ Below w8.heap.size w8 wx)
 case first => as_aux_lemma =>
  have T0 := (Below.refl w8.heap.size w8).drew
  refine wp_region_held_drew (S := fun V => Below w8.heap.size w8 V) (by kernel_rfl) T0 (fun hS0 => ?_)
  refine wpAnyH_take (i := 0) (oi := ({ dst := some 26, op := Op.move (Operand.tmp 1), type := 32, pos := "law.go:34", after := #[], guard := none } : Oper)) (v := ?av1) rfl (by kernel_rfl) (by kernel_rfl) (by kernel_rfl) (fun _ _ _ h => h) (Or.inl ⟨by rfl, ?ay1⟩) T0 ?_
  case ay1 => (intro V hSw; go_simp; try with_reducible rfl)
  try simp only [pu0, puN, pu1, pu2, pu3]
  refine wpAnyH_take (i := 1) (oi := ({ dst := some 27, op := Op.load 64 (Operand.tmp 4), type := 64, pos := "law.go:34", after := #[], guard := none } : Oper)) (v := ?av2) rfl (by kernel_rfl) (by kernel_rfl) (by kernel_rfl) (fun _ _ _ h => h) (Or.inl ⟨by rfl, ?ay2⟩) T0 ?_
  case ay2 => (intro V hSw; have c0 := (hSw.cell (p := ⟨b4, 0, none⟩) l4).trans n40; have c1 := (hSw.cell (p := ⟨b4, 1, none⟩) l4).trans n41; have c2 := (hSw.cell (p := ⟨b4, 2, none⟩) l4).trans n42; have c3 := (hSw.cell (p := ⟨b4, 3, none⟩) l4).trans n43; go_simp; try with_reducible rfl)
  try simp only [pu0, puN, pu1, pu2, pu3]
  refine wpAnyH_ready (rs := [2]) (by kernel_rfl) (by simp) ?_
  refine (AllReadyH.cons (o := _) rfl (fun K hK => ?_) AllReadyH.nil)
  go_simp
  refine (ref84_any ⟨#[83, 116, 114, 105, 110, 103]⟩ _).mono ?_
  rintro e P3 ⟨rfl, hb3⟩
  have T3 := T0.trans (hb3.mono T0.size)
  try go_wp2_with fail
  refine hK.out _ _ T3 (fun hS3 => ?_)
  clear hK K
  try simp only [pu0, puN, pu1, pu2, pu3]
  refine wpAnyH_ready (rs := [3]) (by kernel_rfl) (by simp) ?_
  refine (AllReadyH.cons (o := _) rfl (fun K hK => ?_) AllReadyH.nil)
  go_simp
  refine (J0.out _ T3).mono ?_
  rintro e P4 ⟨rfl, hb4⟩
  have T4 := T3.trans (hb4.mono T3.size)
  try go_wp2_with fail
  refine hK.out _ _ T4 (fun hS4 => ?_)
  clear hK K
  try simp only [pu0, puN, pu1, pu2, pu3]
  refine wpAnyH_ready (rs := [4]) (by kernel_rfl) (by simp) ?_
  refine (AllReadyH.cons (o := _) rfl (fun K hK => ?_) AllReadyH.nil)
  go_simp
  refine (ref84_any ⟨#[83, 116, 114, 105, 110, 103]⟩ _).mono ?_
  rintro e P5 ⟨rfl, hb5⟩
  have T5 := T4.trans (hb5.mono T4.size)
  try go_wp2_with fail
  refine hK.out _ _ T5 (fun hS5 => ?_)
  clear hK K
  try simp only [pu0, puN, pu1, pu2, pu3]
  refine wpAnyH_take (i := 5) (oi := ({ dst := some 31, op := Op.binOp BinOp.eql 64 (Operand.tmp 29) (Operand.tmp 30) 64, type := 4, pos := "law.go:34", after := #[{ on := 3, ground := Ground.data }, { on := 4, ground := Ground.data }], guard := none } : Oper)) (v := ?av6) rfl (by kernel_rfl) (by kernel_rfl) (by kernel_rfl) (fun _ _ _ h => h) (Or.inl ⟨by rfl, ?ay6⟩) T5 ?_
  case ay6 => (intro V hSw; go_simp; try with_reducible rfl)
  try simp only [pu0, puN, pu1, pu2, pu3]
  refine wpAnyH_take (i := 6) (oi := ({ dst := some 32, op := Op.move (Operand.tmp 31), type := 4, pos := "law.go:34", after := #[{ on := 5, ground := Ground.data }, { on := 4, ground := Ground.chain }], guard := none } : Oper)) (v := ?av7) rfl (by kernel_rfl) (by kernel_rfl) (by kernel_rfl) (fun _ _ _ h => h) (Or.inl ⟨by rfl, ?ay7⟩) T5 ?_
  case ay7 => (intro V hSw; go_simp; try with_reducible rfl)
  try simp only [pu0, puN, pu1, pu2, pu3]
  refine wpAnyH_take (i := 7) (oi := ({ dst := some 33, op := Op.move (Operand.tmp 1), type := 32, pos := "law.go:34", after := #[{ on := 6, ground := Ground.guard }], guard := some (6, true) } : Oper)) (v := ?av8) rfl (by kernel_rfl) (by kernel_rfl) (by kernel_rfl) (fun _ _ _ h => h) (Or.inl ⟨by rfl, ?ay8⟩) T5 ?_
  case ay8 => (intro V hSw; go_simp; try with_reducible rfl)
  try simp only [pu0, puN, pu1, pu2, pu3]
  refine wpAnyH_ready (rs := [8]) (by kernel_rfl) (by simp) ?_
  refine (AllReadyH.cons (o := _) rfl (fun K hK => ?_) AllReadyH.nil)
  go_simp
  refine (ref84_any ⟨#[78, 117, 108, 108]⟩ _).mono ?_
  rintro e P9 ⟨rfl, hb9⟩
  have T9 := T5.trans (hb9.mono T5.size)
  try go_wp2_with fail
  refine hK.out _ _ T9 (fun hS9 => ?_)
  clear hK K
  try simp only [pu0, puN, pu1, pu2, pu3]
  refine wpAnyH_ready (rs := [9]) (by kernel_rfl) (by simp) ?_
  refine (AllReadyH.cons (o := _) rfl (fun K hK => ?_) AllReadyH.nil)
  go_simp
  refine (ref84_any ⟨#[65, 114, 105, 116, 104]⟩ _).mono ?_
  rintro e P10 ⟨rfl, hb10⟩
  have T10 := T9.trans (hb10.mono T9.size)
  try go_wp2_with fail
  refine hK.out _ _ T10 (fun hS10 => ?_)
  clear hK K
  try simp only [pu0, puN, pu1, pu2, pu3]
  refine wpAnyH_ready (rs := [10]) (by kernel_rfl) (by simp) ?_
  refine (AllReadyH.cons (o := _) rfl (fun K hK => ?_) AllReadyH.nil)
  go_simp
  refine (J1.out _ T10).mono ?_
  rintro e P11 ⟨rfl, hb11⟩
  have T11 := T10.trans (hb11.mono T10.size)
  try go_wp2_with fail
  refine hK.out _ _ T11 (fun hS11 => ?_)
  clear hK K
  try simp only [pu0, puN, pu1, pu2, pu3]
  refine wpAnyH_ready (rs := [11]) (by kernel_rfl) (by simp) ?_
  refine (AllReadyH.cons (o := _) rfl (fun K hK => ?_) AllReadyH.nil)
  go_simp
  refine (ref84_any ⟨#[84, 104, 114, 111, 119, 97, 98, 108, 101]⟩ _).mono ?_
  rintro e P12 ⟨rfl, hb12⟩
  have T12 := T11.trans (hb12.mono T11.size)
  try go_wp2_with fail
  refine hK.out _ _ T12 (fun hS12 => ?_)
  clear hK K
  try simp only [pu0, puN, pu1, pu2, pu3]
  refine wpAnyH_take (i := 12) (oi := ({ dst := some 38, op := Op.binOp BinOp.eql 64 (Operand.tmp 36) (Operand.tmp 37) 64, type := 4, pos := "law.go:34", after := #[{ on := 10, ground := Ground.data }, { on := 11, ground := Ground.data }, { on := 6, ground := Ground.guard }], guard := some (6, true) } : Oper)) (v := ?av13) rfl (by kernel_rfl) (by kernel_rfl) (by kernel_rfl) (fun _ _ _ h => h) (Or.inl ⟨by rfl, ?ay13⟩) T12 ?_
  case ay13 => (intro V hSw; go_simp; try with_reducible rfl)
  try simp only [pu0, puN, pu1, pu2, pu3]
  refine wpAnyH_take (i := 13) (oi := ({ dst := some 39, op := Op.pick (Operand.tmp 32) (Operand.tmp 38) (Operand.const (Value.bool false)), type := 4, pos := "law.go:34", after := #[{ on := 6, ground := Ground.data }, { on := 12, ground := Ground.data }], guard := none } : Oper)) (v := ?av14) rfl (by kernel_rfl) (by kernel_rfl) (by kernel_rfl) (fun _ _ _ h => h) (Or.inl ⟨by rfl, ?ay14⟩) T12 ?_
  case ay14 => (intro V hSw; go_simp; try with_reducible rfl)
  try simp only [pu0, puN, pu1, pu2, pu3]
  refine wpAnyH_take (i := 14) (oi := ({ dst := some 40, op := Op.move (Operand.tmp 39), type := 4, pos := "law.go:34", after := #[{ on := 13, ground := Ground.data }, { on := 11, ground := Ground.chain }], guard := none } : Oper)) (v := ?av15) rfl (by kernel_rfl) (by kernel_rfl) (by kernel_rfl) (fun _ _ _ h => h) (Or.inl ⟨by rfl, ?ay15⟩) T12 ?_
  case ay15 => (intro V hSw; go_simp; try with_reducible rfl)
  try simp only [pu0, puN, pu1, pu2, pu3]
  refine wpAnyH_take (i := 15) (oi := ({ dst := some 41, op := Op.move (Operand.tmp 1), type := 32, pos := "law.go:34", after := #[{ on := 14, ground := Ground.guard }], guard := some (14, true) } : Oper)) (v := ?av16) rfl (by kernel_rfl) (by kernel_rfl) (by kernel_rfl) (fun _ _ _ h => h) (Or.inl ⟨by rfl, ?ay16⟩) T12 ?_
  case ay16 => (intro V hSw; go_simp; try with_reducible rfl)
  try simp only [pu0, puN, pu1, pu2, pu3]
  refine wpAnyH_take (i := 16) (oi := ({ dst := some 42, op := Op.load 64 (Operand.tmp 5), type := 64, pos := "law.go:34", after := #[{ on := 14, ground := Ground.guard }], guard := some (14, true) } : Oper)) (v := ?av17) rfl (by kernel_rfl) (by kernel_rfl) (by kernel_rfl) (fun _ _ _ h => h) (Or.inl ⟨by rfl, ?ay17⟩) T12 ?_
  case ay17 => (intro V hSw; have c0 := (hSw.cell (p := ⟨b5, 0, none⟩) l5).trans n50; have c1 := (hSw.cell (p := ⟨b5, 1, none⟩) l5).trans n51; have c2 := (hSw.cell (p := ⟨b5, 2, none⟩) l5).trans n52; have c3 := (hSw.cell (p := ⟨b5, 3, none⟩) l5).trans n53; go_simp; try with_reducible rfl)
  try simp only [pu0, puN, pu1, pu2, pu3]
  refine wpAnyH_take (i := 17) (oi := ({ dst := some 43, op := Op.load 64 (Operand.tmp 4), type := 64, pos := "law.go:34", after := #[{ on := 14, ground := Ground.guard }], guard := some (14, true) } : Oper)) (v := ?av18) rfl (by kernel_rfl) (by kernel_rfl) (by kernel_rfl) (fun _ _ _ h => h) (Or.inl ⟨by rfl, ?ay18⟩) T12 ?_
  case ay18 => (intro V hSw; have c0 := (hSw.cell (p := ⟨b4, 0, none⟩) l4).trans n40; have c1 := (hSw.cell (p := ⟨b4, 1, none⟩) l4).trans n41; have c2 := (hSw.cell (p := ⟨b4, 2, none⟩) l4).trans n42; have c3 := (hSw.cell (p := ⟨b4, 3, none⟩) l4).trans n43; go_simp; try with_reducible rfl)
  try simp only [pu0, puN, pu1, pu2, pu3]
  refine wpAnyH_take (i := 19) (oi := ({ dst := some 45, op := Op.load 64 (Operand.tmp 8), type := 64, pos := "law.go:34", after := #[{ on := 14, ground := Ground.guard }], guard := some (14, true) } : Oper)) (v := ?av19) rfl (by kernel_rfl) (by kernel_rfl) (by kernel_rfl) (fun _ _ _ h => h) (Or.inl ⟨by rfl, ?ay19⟩) T12 ?_
  case ay19 => (intro V hSw; have c0 := (hSw.cell (p := ⟨b8, 0, none⟩) l8).trans n80; have c1 := (hSw.cell (p := ⟨b8, 1, none⟩) l8).trans n81; have c2 := (hSw.cell (p := ⟨b8, 2, none⟩) l8).trans n82; have c3 := (hSw.cell (p := ⟨b8, 3, none⟩) l8).trans n83; go_simp; try with_reducible rfl)
  try simp only [pu0, puN, pu1, pu2, pu3]
  refine wpAnyH_ready (rs := [18]) (by kernel_rfl) (by simp) ?_
  refine (AllReadyH.cons (o := _) rfl (fun K hK => ?_) AllReadyH.nil)
  go_simp
  refine (J2.out _ T12).mono ?_
  rintro e P20 ⟨rfl, hb20⟩
  have T20 := T12.trans (hb20.mono T12.size)
  try go_wp2_with fail
  refine hK.out _ _ T20 (fun hS20 => ?_)
  clear hK K
  try simp only [pu0, puN, pu1, pu2, pu3]
  refine wpAnyH_take (i := 20) (oi := ({ dst := some 46, op := Op.binOp BinOp.eql 64 (Operand.tmp 44) (Operand.tmp 45) 64, type := 4, pos := "law.go:34", after := #[{ on := 18, ground := Ground.data }, { on := 19, ground := Ground.data }, { on := 14, ground := Ground.guard }], guard := some (14, true) } : Oper)) (v := ?av21) rfl (by kernel_rfl) (by kernel_rfl) (by kernel_rfl) (fun _ _ _ h => h) (Or.inl ⟨by rfl, ?ay21⟩) T20 ?_
  case ay21 => (intro V hSw; go_simp; try with_reducible rfl)
  try simp only [pu0, puN, pu1, pu2, pu3]
  refine wpAnyH_take (i := 21) (oi := ({ dst := some 47, op := Op.pick (Operand.tmp 40) (Operand.tmp 46) (Operand.const (Value.bool false)), type := 4, pos := "law.go:34", after := #[{ on := 14, ground := Ground.data }, { on := 20, ground := Ground.data }], guard := none } : Oper)) (v := ?av22) rfl (by kernel_rfl) (by kernel_rfl) (by kernel_rfl) (fun _ _ _ h => h) (Or.inl ⟨by rfl, ?ay22⟩) T20 ?_
  case ay22 => (intro V hSw; go_simp; try with_reducible rfl)
  try simp only [pu0, puN, pu1, pu2, pu3]
  refine wpAnyH_take (i := 22) (oi := ({ dst := some 48, op := Op.move (Operand.tmp 47), type := 4, pos := "law.go:34", after := #[{ on := 21, ground := Ground.data }, { on := 18, ground := Ground.chain }], guard := none } : Oper)) (v := ?av23) rfl (by kernel_rfl) (by kernel_rfl) (by kernel_rfl) (fun _ _ _ h => h) (Or.inl ⟨by rfl, ?ay23⟩) T20 ?_
  case ay23 => (intro V hSw; go_simp; try with_reducible rfl)
  try simp only [pu0, puN, pu1, pu2, pu3]
  refine wpAnyH_take (i := 23) (oi := ({ dst := some 49, op := Op.move (Operand.tmp 1), type := 32, pos := "law.go:34", after := #[{ on := 22, ground := Ground.guard }], guard := some (22, true) } : Oper)) (v := ?av24) rfl (by kernel_rfl) (by kernel_rfl) (by kernel_rfl) (fun _ _ _ h => h) (Or.inl ⟨by rfl, ?ay24⟩) T20 ?_
  case ay24 => (intro V hSw; go_simp; try with_reducible rfl)
  try simp only [pu0, puN, pu1, pu2, pu3]
  refine wpAnyH_take (i := 24) (oi := ({ dst := some 50, op := Op.load 64 (Operand.tmp 6), type := 64, pos := "law.go:34", after := #[{ on := 22, ground := Ground.guard }], guard := some (22, true) } : Oper)) (v := ?av25) rfl (by kernel_rfl) (by kernel_rfl) (by kernel_rfl) (fun _ _ _ h => h) (Or.inl ⟨by rfl, ?ay25⟩) T20 ?_
  case ay25 => (intro V hSw; have c0 := (hSw.cell (p := ⟨b6, 0, none⟩) l6).trans n60; have c1 := (hSw.cell (p := ⟨b6, 1, none⟩) l6).trans n61; have c2 := (hSw.cell (p := ⟨b6, 2, none⟩) l6).trans n62; have c3 := (hSw.cell (p := ⟨b6, 3, none⟩) l6).trans n63; go_simp; try with_reducible rfl)
  try simp only [pu0, puN, pu1, pu2, pu3]
  refine wpAnyH_take (i := 25) (oi := ({ dst := some 51, op := Op.load 64 (Operand.tmp 6), type := 64, pos := "law.go:34", after := #[{ on := 22, ground := Ground.guard }], guard := some (22, true) } : Oper)) (v := ?av26) rfl (by kernel_rfl) (by kernel_rfl) (by kernel_rfl) (fun _ _ _ h => h) (Or.inl ⟨by rfl, ?ay26⟩) T20 ?_
  case ay26 => (intro V hSw; have c0 := (hSw.cell (p := ⟨b6, 0, none⟩) l6).trans n60; have c1 := (hSw.cell (p := ⟨b6, 1, none⟩) l6).trans n61; have c2 := (hSw.cell (p := ⟨b6, 2, none⟩) l6).trans n62; have c3 := (hSw.cell (p := ⟨b6, 3, none⟩) l6).trans n63; go_simp; try with_reducible rfl)
  try simp only [pu0, puN, pu1, pu2, pu3]
  refine wpAnyH_take (i := 27) (oi := ({ dst := some 53, op := Op.load 64 (Operand.tmp 6), type := 64, pos := "law.go:34", after := #[{ on := 22, ground := Ground.guard }], guard := some (22, true) } : Oper)) (v := ?av27) rfl (by kernel_rfl) (by kernel_rfl) (by kernel_rfl) (fun _ _ _ h => h) (Or.inl ⟨by rfl, ?ay27⟩) T20 ?_
  case ay27 => (intro V hSw; have c0 := (hSw.cell (p := ⟨b6, 0, none⟩) l6).trans n60; have c1 := (hSw.cell (p := ⟨b6, 1, none⟩) l6).trans n61; have c2 := (hSw.cell (p := ⟨b6, 2, none⟩) l6).trans n62; have c3 := (hSw.cell (p := ⟨b6, 3, none⟩) l6).trans n63; go_simp; try with_reducible rfl)
  try simp only [pu0, puN, pu1, pu2, pu3]
  refine wpAnyH_ready (rs := [26]) (by kernel_rfl) (by simp) ?_
  refine (AllReadyH.cons (o := _) rfl (fun K hK => ?_) AllReadyH.nil)
  go_simp
  refine (J3.out _ T20).mono ?_
  rintro e P28 ⟨rfl, hb28⟩
  have T28 := T20.trans (hb28.mono T20.size)
  try go_wp2_with fail
  refine hK.out _ _ T28 (fun hS28 => ?_)
  clear hK K
  try simp only [pu0, puN, pu1, pu2, pu3]
  refine wpAnyH_take (i := 28) (oi := ({ dst := some 54, op := Op.binOp BinOp.eql 64 (Operand.tmp 52) (Operand.tmp 53) 64, type := 4, pos := "law.go:34", after := #[{ on := 26, ground := Ground.data }, { on := 27, ground := Ground.data }, { on := 22, ground := Ground.guard }], guard := some (22, true) } : Oper)) (v := ?av29) rfl (by kernel_rfl) (by kernel_rfl) (by kernel_rfl) (fun _ _ _ h => h) (Or.inl ⟨by rfl, ?ay29⟩) T28 ?_
  case ay29 => (intro V hSw; go_simp; try with_reducible rfl)
  try simp only [pu0, puN, pu1, pu2, pu3]
  refine wpAnyH_take (i := 29) (oi := ({ dst := some 55, op := Op.pick (Operand.tmp 48) (Operand.tmp 54) (Operand.const (Value.bool false)), type := 4, pos := "law.go:34", after := #[{ on := 22, ground := Ground.data }, { on := 28, ground := Ground.data }], guard := none } : Oper)) (v := ?av30) rfl (by kernel_rfl) (by kernel_rfl) (by kernel_rfl) (fun _ _ _ h => h) (Or.inl ⟨by rfl, ?ay30⟩) T28 ?_
  case ay30 => (intro V hSw; go_simp; try with_reducible rfl)
  try simp only [pu0, puN, pu1, pu2, pu3]
  refine wpAnyH_take (i := 30) (oi := ({ dst := some 56, op := Op.move (Operand.tmp 55), type := 4, pos := "law.go:34", after := #[{ on := 29, ground := Ground.data }, { on := 26, ground := Ground.chain }], guard := none } : Oper)) (v := ?av31) rfl (by kernel_rfl) (by kernel_rfl) (by kernel_rfl) (fun _ _ _ h => h) (Or.inl ⟨by rfl, ?ay31⟩) T28 ?_
  case ay31 => (intro V hSw; go_simp; try with_reducible rfl)
  try simp only [pu0, puN, pu1, pu2, pu3]
  refine wpAnyH_take (i := 31) (oi := ({ dst := some 57, op := Op.move (Operand.tmp 1), type := 32, pos := "law.go:34", after := #[{ on := 30, ground := Ground.guard }], guard := some (30, true) } : Oper)) (v := ?av32) rfl (by kernel_rfl) (by kernel_rfl) (by kernel_rfl) (fun _ _ _ h => h) (Or.inl ⟨by rfl, ?ay32⟩) T28 ?_
  case ay32 => (intro V hSw; go_simp; try with_reducible rfl)
  try simp only [pu0, puN, pu1, pu2, pu3]
  refine wpAnyH_take (i := 32) (oi := ({ dst := some 58, op := Op.load 64 (Operand.tmp 6), type := 64, pos := "law.go:34", after := #[{ on := 30, ground := Ground.guard }], guard := some (30, true) } : Oper)) (v := ?av33) rfl (by kernel_rfl) (by kernel_rfl) (by kernel_rfl) (fun _ _ _ h => h) (Or.inl ⟨by rfl, ?ay33⟩) T28 ?_
  case ay33 => (intro V hSw; have c0 := (hSw.cell (p := ⟨b6, 0, none⟩) l6).trans n60; have c1 := (hSw.cell (p := ⟨b6, 1, none⟩) l6).trans n61; have c2 := (hSw.cell (p := ⟨b6, 2, none⟩) l6).trans n62; have c3 := (hSw.cell (p := ⟨b6, 3, none⟩) l6).trans n63; go_simp; try with_reducible rfl)
  try simp only [pu0, puN, pu1, pu2, pu3]
  refine wpAnyH_take (i := 33) (oi := ({ dst := some 59, op := Op.load 64 (Operand.tmp 7), type := 64, pos := "law.go:34", after := #[{ on := 30, ground := Ground.guard }], guard := some (30, true) } : Oper)) (v := ?av34) rfl (by kernel_rfl) (by kernel_rfl) (by kernel_rfl) (fun _ _ _ h => h) (Or.inl ⟨by rfl, ?ay34⟩) T28 ?_
  case ay34 => (intro V hSw; have c0 := (hSw.cell (p := ⟨b7, 0, none⟩) l7).trans n70; have c1 := (hSw.cell (p := ⟨b7, 1, none⟩) l7).trans n71; have c2 := (hSw.cell (p := ⟨b7, 2, none⟩) l7).trans n72; have c3 := (hSw.cell (p := ⟨b7, 3, none⟩) l7).trans n73; go_simp; try with_reducible rfl)
  try simp only [pu0, puN, pu1, pu2, pu3]
  refine wpAnyH_take (i := 35) (oi := ({ dst := some 61, op := Op.load 64 (Operand.tmp 8), type := 64, pos := "law.go:34", after := #[{ on := 30, ground := Ground.guard }], guard := some (30, true) } : Oper)) (v := ?av35) rfl (by kernel_rfl) (by kernel_rfl) (by kernel_rfl) (fun _ _ _ h => h) (Or.inl ⟨by rfl, ?ay35⟩) T28 ?_
  case ay35 => (intro V hSw; have c0 := (hSw.cell (p := ⟨b8, 0, none⟩) l8).trans n80; have c1 := (hSw.cell (p := ⟨b8, 1, none⟩) l8).trans n81; have c2 := (hSw.cell (p := ⟨b8, 2, none⟩) l8).trans n82; have c3 := (hSw.cell (p := ⟨b8, 3, none⟩) l8).trans n83; go_simp; try with_reducible rfl)
  try simp only [pu0, puN, pu1, pu2, pu3]
  refine wpAnyH_ready (rs := [34]) (by kernel_rfl) (by simp) ?_
  refine (AllReadyH.cons (o := _) rfl (fun K hK => ?_) AllReadyH.nil)
  go_simp
  refine (J4.out _ T28).mono ?_
  rintro e P36 ⟨rfl, hb36⟩
  have T36 := T28.trans (hb36.mono T28.size)
  try go_wp2_with fail
  refine hK.out _ _ T36 (fun hS36 => ?_)
  clear hK K
  try simp only [pu0, puN, pu1, pu2, pu3]
  refine wpAnyH_take (i := 36) (oi := ({ dst := some 62, op := Op.binOp BinOp.eql 64 (Operand.tmp 60) (Operand.tmp 61) 64, type := 4, pos := "law.go:34", after := #[{ on := 34, ground := Ground.data }, { on := 35, ground := Ground.data }, { on := 30, ground := Ground.guard }], guard := some (30, true) } : Oper)) (v := ?av37) rfl (by kernel_rfl) (by kernel_rfl) (by kernel_rfl) (fun _ _ _ h => h) (Or.inl ⟨by rfl, ?ay37⟩) T36 ?_
  case ay37 => (intro V hSw; go_simp; try with_reducible rfl)
  try simp only [pu0, puN, pu1, pu2, pu3]
  refine wpAnyH_take (i := 37) (oi := ({ dst := some 63, op := Op.pick (Operand.tmp 56) (Operand.tmp 62) (Operand.const (Value.bool false)), type := 4, pos := "law.go:34", after := #[{ on := 30, ground := Ground.data }, { on := 36, ground := Ground.data }], guard := none } : Oper)) (v := ?av38) rfl (by kernel_rfl) (by kernel_rfl) (by kernel_rfl) (fun _ _ _ h => h) (Or.inl ⟨by rfl, ?ay38⟩) T36 ?_
  case ay38 => (intro V hSw; go_simp; try with_reducible rfl)
  try simp only [pu0, puN, pu1, pu2, pu3]
  refine wpAnyH_take (i := 38) (oi := ({ dst := some 9, op := Op.assign (Operand.tmp 63), type := 4, pos := "law.go:34", after := #[{ on := 37, ground := Ground.data }, { on := 34, ground := Ground.chain }, { on := 0, ground := Ground.phase }, { on := 1, ground := Ground.phase }, { on := 2, ground := Ground.phase }, { on := 3, ground := Ground.phase }, { on := 4, ground := Ground.phase }, { on := 5, ground := Ground.phase }, { on := 6, ground := Ground.phase }, { on := 7, ground := Ground.phase }, { on := 8, ground := Ground.phase }, { on := 9, ground := Ground.phase }, { on := 10, ground := Ground.phase }, { on := 11, ground := Ground.phase }, { on := 12, ground := Ground.phase }, { on := 13, ground := Ground.phase }, { on := 14, ground := Ground.phase }, { on := 15, ground := Ground.phase }, { on := 16, ground := Ground.phase }, { on := 17, ground := Ground.phase }, { on := 18, ground := Ground.phase }, { on := 19, ground := Ground.phase }, { on := 20, ground := Ground.phase }, { on := 21, ground := Ground.phase }, { on := 22, ground := Ground.phase }, { on := 23, ground := Ground.phase }, { on := 24, ground := Ground.phase }, { on := 25, ground := Ground.phase }, { on := 26, ground := Ground.phase }, { on := 27, ground := Ground.phase }, { on := 28, ground := Ground.phase }, { on := 29, ground := Ground.phase }, { on := 30, ground := Ground.phase }, { on := 31, ground := Ground.phase }, { on := 32, ground := Ground.phase }, { on := 33, ground := Ground.phase }, { on := 34, ground := Ground.phase }, { on := 35, ground := Ground.phase }, { on := 36, ground := Ground.phase }, { on := 37, ground := Ground.phase }], guard := none } : Oper)) (v := ?av39) rfl (by kernel_rfl) (by kernel_rfl) (by kernel_rfl) (fun _ _ _ h => h) (Or.inl ⟨by rfl, ?ay39⟩) T36 ?_
  case ay39 => (intro V hSw; go_simp; try with_reducible rfl)
  try simp only [pu0, puN, pu1, pu2, pu3]
  refine wpAnyH_done (by kernel_rfl) ?_ _
  try go_wp2
  go_meet
  case rel => exact ⟨rfl, T36⟩
 obtain ⟨rfl, hb9⟩ := hcut
 obtain ⟨w9, hw9⟩ : ∃ W, W = wc := ⟨_, rfl⟩
 subst hw9
 have B9 := Lib.hid hb9
 replace n40 := (hb9.cell (p := ⟨b4, 0, none⟩) l4).trans n40
 replace n41 := (hb9.cell (p := ⟨b4, 1, none⟩) l4).trans n41
 replace n42 := (hb9.cell (p := ⟨b4, 2, none⟩) l4).trans n42
 replace n43 := (hb9.cell (p := ⟨b4, 3, none⟩) l4).trans n43
 replace l4 := Nat.lt_of_lt_of_le l4 hb9.size
 replace n50 := (hb9.cell (p := ⟨b5, 0, none⟩) l5).trans n50
 replace n51 := (hb9.cell (p := ⟨b5, 1, none⟩) l5).trans n51
 replace n52 := (hb9.cell (p := ⟨b5, 2, none⟩) l5).trans n52
 replace n53 := (hb9.cell (p := ⟨b5, 3, none⟩) l5).trans n53
 replace l5 := Nat.lt_of_lt_of_le l5 hb9.size
 replace n60 := (hb9.cell (p := ⟨b6, 0, none⟩) l6).trans n60
 replace n61 := (hb9.cell (p := ⟨b6, 1, none⟩) l6).trans n61
 replace n62 := (hb9.cell (p := ⟨b6, 2, none⟩) l6).trans n62
 replace n63 := (hb9.cell (p := ⟨b6, 3, none⟩) l6).trans n63
 replace l6 := Nat.lt_of_lt_of_le l6 hb9.size
 replace n70 := (hb9.cell (p := ⟨b7, 0, none⟩) l7).trans n70
 replace n71 := (hb9.cell (p := ⟨b7, 1, none⟩) l7).trans n71
 replace n72 := (hb9.cell (p := ⟨b7, 2, none⟩) l7).trans n72
 replace n73 := (hb9.cell (p := ⟨b7, 3, none⟩) l7).trans n73
 replace l7 := Nat.lt_of_lt_of_le l7 hb9.size
 replace n80 := (hb9.cell (p := ⟨b8, 0, none⟩) l8).trans n80
 replace n81 := (hb9.cell (p := ⟨b8, 1, none⟩) l8).trans n81
 replace n82 := (hb9.cell (p := ⟨b8, 2, none⟩) l8).trans n82
 replace n83 := (hb9.cell (p := ⟨b8, 3, none⟩) l8).trans n83
 replace l8 := Nat.lt_of_lt_of_le l8 hb9.size
 clear hb9
 go_upto_region 10 with fail
 have T0 := (Below.refl w9.heap.size w9).drew
 refine wp_region_held_drew (S := fun V => Below w9.heap.size w9 V) (by kernel_rfl) T0 (fun hS0 => ?_)
 refine wpAnyH_take (i := 0) (oi := ({ dst := some 64, op := Op.move (Operand.tmp 9), type := 4, pos := "law.go:35", after := #[], guard := none } : Oper)) (v := ?av40) rfl (by kernel_rfl) (by kernel_rfl) (by kernel_rfl) (fun _ _ _ h => h) (Or.inl ⟨by rfl, ?ay40⟩) T0 ?_
 case ay40 => (intro V hSw; go_simp; try with_reducible rfl)
 try simp only [pu0, puN, pu1, pu2, pu3]
 refine wpAnyH_take (i := 1) (oi := ({ dst := some 65, op := Op.move (Operand.tmp 64), type := 4, pos := "law.go:35", after := #[{ on := 0, ground := Ground.data }], guard := none } : Oper)) (v := ?av41) rfl (by kernel_rfl) (by kernel_rfl) (by kernel_rfl) (fun _ _ _ h => h) (Or.inl ⟨by rfl, ?ay41⟩) T0 ?_
 case ay41 => (intro V hSw; go_simp; try with_reducible rfl)
 try simp only [pu0, puN, pu1, pu2, pu3]
 refine wpAnyH_take (i := 2) (oi := ({ dst := some 66, op := Op.move (Operand.tmp 1), type := 32, pos := "law.go:35", after := #[{ on := 1, ground := Ground.guard }], guard := some (1, true) } : Oper)) (v := ?av42) rfl (by kernel_rfl) (by kernel_rfl) (by kernel_rfl) (fun _ _ _ h => h) (Or.inl ⟨by rfl, ?ay42⟩) T0 ?_
 case ay42 => (intro V hSw; go_simp; try with_reducible rfl)
 try simp only [pu0, puN, pu1, pu2, pu3]
 refine wpAnyH_take (i := 3) (oi := ({ dst := some 67, op := Op.load 64 (Operand.tmp 4), type := 64, pos := "law.go:35", after := #[{ on := 1, ground := Ground.guard }], guard := some (1, true) } : Oper)) (v := ?av43) rfl (by kernel_rfl) (by kernel_rfl) (by kernel_rfl) (fun _ _ _ h => h) (Or.inl ⟨by rfl, ?ay43⟩) T0 ?_
 case ay43 => (intro V hSw; have c0 := (hSw.cell (p := ⟨b4, 0, none⟩) l4).trans n40; have c1 := (hSw.cell (p := ⟨b4, 1, none⟩) l4).trans n41; have c2 := (hSw.cell (p := ⟨b4, 2, none⟩) l4).trans n42; have c3 := (hSw.cell (p := ⟨b4, 3, none⟩) l4).trans n43; go_simp; try with_reducible rfl)
 try simp only [pu0, puN, pu1, pu2, pu3]
 refine wpAnyH_ready (rs := [4]) (by kernel_rfl) (by simp) ?_
 refine (AllReadyH.cons (o := _) rfl (fun K hK => ?_) AllReadyH.nil)
 go_simp
 refine (ref84_any ⟨#[83, 116, 114, 105, 110, 103]⟩ _).mono ?_
 rintro e P44 ⟨rfl, hb44⟩
 have T44 := T0.trans (hb44.mono T0.size)
 try go_wp2_with fail
 refine hK.out _ _ T44 (fun hS44 => ?_)
 clear hK K
 try simp only [pu0, puN, pu1, pu2, pu3]
 refine wpAnyH_ready (rs := [5]) (by kernel_rfl) (by simp) ?_
 refine (AllReadyH.cons (o := _) rfl (fun K hK => ?_) AllReadyH.nil)
 go_simp
 refine (V0.out _ (Below.hlink B9.out T44)).mono ?_
 rintro e P45 ⟨rfl, hb45⟩
 have T45 := T44.trans (hb45.mono T44.size)
 try go_wp2_with fail
 refine hK.out _ _ T45 (fun hS45 => ?_)
 clear hK K
 try simp only [pu0, puN, pu1, pu2, pu3]
 refine wpAnyH_take (i := 6) (oi := ({ dst := some 70, op := Op.pick (Operand.tmp 65) (Operand.tmp 69) (Operand.const (Value.bool false)), type := 4, pos := "law.go:35", after := #[{ on := 1, ground := Ground.data }, { on := 5, ground := Ground.data }], guard := none } : Oper)) (v := ?av46) rfl (by kernel_rfl) (by kernel_rfl) (by kernel_rfl) (fun _ _ _ h => h) (Or.inl ⟨by rfl, ?ay46⟩) T45 ?_
 case ay46 => (intro V hSw; go_simp; try with_reducible rfl)
 try simp only [pu0, puN, pu1, pu2, pu3]
 refine wpAnyH_take (i := 7) (oi := ({ dst := some 71, op := Op.move (Operand.tmp 70), type := 4, pos := "law.go:35", after := #[{ on := 6, ground := Ground.data }, { on := 5, ground := Ground.chain }], guard := none } : Oper)) (v := ?av47) rfl (by kernel_rfl) (by kernel_rfl) (by kernel_rfl) (fun _ _ _ h => h) (Or.inl ⟨by rfl, ?ay47⟩) T45 ?_
 case ay47 => (intro V hSw; go_simp; try with_reducible rfl)
 try simp only [pu0, puN, pu1, pu2, pu3]
 refine wpAnyH_take (i := 8) (oi := ({ dst := some 72, op := Op.move (Operand.tmp 1), type := 32, pos := "law.go:35", after := #[{ on := 7, ground := Ground.guard }], guard := some (7, true) } : Oper)) (v := ?av48) rfl (by kernel_rfl) (by kernel_rfl) (by kernel_rfl) (fun _ _ _ h => h) (Or.inl ⟨by rfl, ?ay48⟩) T45 ?_
 case ay48 => (intro V hSw; go_simp; try with_reducible rfl)
 try simp only [pu0, puN, pu1, pu2, pu3]
 refine wpAnyH_ready (rs := [9]) (by kernel_rfl) (by simp) ?_
 refine (AllReadyH.cons (o := _) rfl (fun K hK => ?_) AllReadyH.nil)
 go_simp
 refine (ref84_any ⟨#[78, 117, 108, 108]⟩ _).mono ?_
 rintro e P49 ⟨rfl, hb49⟩
 have T49 := T45.trans (hb49.mono T45.size)
 try go_wp2_with fail
 refine hK.out _ _ T49 (fun hS49 => ?_)
 clear hK K
 try simp only [pu0, puN, pu1, pu2, pu3]
 refine wpAnyH_ready (rs := [10]) (by kernel_rfl) (by simp) ?_
 refine (AllReadyH.cons (o := _) rfl (fun K hK => ?_) AllReadyH.nil)
 go_simp
 refine (ref84_any ⟨#[79, 98, 106, 101, 99, 116]⟩ _).mono ?_
 rintro e P50 ⟨rfl, hb50⟩
 have T50 := T49.trans (hb50.mono T49.size)
 try go_wp2_with fail
 refine hK.out _ _ T50 (fun hS50 => ?_)
 clear hK K
 try simp only [pu0, puN, pu1, pu2, pu3]
 refine wpAnyH_ready (rs := [11]) (by kernel_rfl) (by simp) ?_
 refine (AllReadyH.cons (o := _) rfl (fun K hK => ?_) AllReadyH.nil)
 go_simp
 refine (V1.out _ (Below.hlink B9.out T50)).mono ?_
 rintro e P51 ⟨rfl, hb51⟩
 have T51 := T50.trans (hb51.mono T50.size)
 try go_wp2_with fail
 refine hK.out _ _ T51 (fun hS51 => ?_)
 clear hK K
 try simp only [pu0, puN, pu1, pu2, pu3]
 refine wpAnyH_take (i := 12) (oi := ({ dst := some 76, op := Op.pick (Operand.tmp 71) (Operand.tmp 75) (Operand.const (Value.bool false)), type := 4, pos := "law.go:35", after := #[{ on := 7, ground := Ground.data }, { on := 11, ground := Ground.data }], guard := none } : Oper)) (v := ?av52) rfl (by kernel_rfl) (by kernel_rfl) (by kernel_rfl) (fun _ _ _ h => h) (Or.inl ⟨by rfl, ?ay52⟩) T51 ?_
 case ay52 => (intro V hSw; go_simp; try with_reducible rfl)
 try simp only [pu0, puN, pu1, pu2, pu3]
 refine wpAnyH_take (i := 13) (oi := ({ dst := some 77, op := Op.move (Operand.tmp 76), type := 4, pos := "law.go:35", after := #[{ on := 12, ground := Ground.data }, { on := 11, ground := Ground.chain }], guard := none } : Oper)) (v := ?av53) rfl (by kernel_rfl) (by kernel_rfl) (by kernel_rfl) (fun _ _ _ h => h) (Or.inl ⟨by rfl, ?ay53⟩) T51 ?_
 case ay53 => (intro V hSw; go_simp; try with_reducible rfl)
 try simp only [pu0, puN, pu1, pu2, pu3]
 refine wpAnyH_take (i := 14) (oi := ({ dst := some 78, op := Op.move (Operand.tmp 1), type := 32, pos := "law.go:35", after := #[{ on := 13, ground := Ground.guard }], guard := some (13, true) } : Oper)) (v := ?av54) rfl (by kernel_rfl) (by kernel_rfl) (by kernel_rfl) (fun _ _ _ h => h) (Or.inl ⟨by rfl, ?ay54⟩) T51 ?_
 case ay54 => (intro V hSw; go_simp; try with_reducible rfl)
 try simp only [pu0, puN, pu1, pu2, pu3]
 refine wpAnyH_take (i := 15) (oi := ({ dst := some 79, op := Op.load 64 (Operand.tmp 5), type := 64, pos := "law.go:35", after := #[{ on := 13, ground := Ground.guard }], guard := some (13, true) } : Oper)) (v := ?av55) rfl (by kernel_rfl) (by kernel_rfl) (by kernel_rfl) (fun _ _ _ h => h) (Or.inl ⟨by rfl, ?ay55⟩) T51 ?_
 case ay55 => (intro V hSw; have c0 := (hSw.cell (p := ⟨b5, 0, none⟩) l5).trans n50; have c1 := (hSw.cell (p := ⟨b5, 1, none⟩) l5).trans n51; have c2 := (hSw.cell (p := ⟨b5, 2, none⟩) l5).trans n52; have c3 := (hSw.cell (p := ⟨b5, 3, none⟩) l5).trans n53; go_simp; try with_reducible rfl)
 try simp only [pu0, puN, pu1, pu2, pu3]
 refine wpAnyH_take (i := 16) (oi := ({ dst := some 80, op := Op.load 64 (Operand.tmp 8), type := 64, pos := "law.go:35", after := #[{ on := 13, ground := Ground.guard }], guard := some (13, true) } : Oper)) (v := ?av56) rfl (by kernel_rfl) (by kernel_rfl) (by kernel_rfl) (fun _ _ _ h => h) (Or.inl ⟨by rfl, ?ay56⟩) T51 ?_
 case ay56 => (intro V hSw; have c0 := (hSw.cell (p := ⟨b8, 0, none⟩) l8).trans n80; have c1 := (hSw.cell (p := ⟨b8, 1, none⟩) l8).trans n81; have c2 := (hSw.cell (p := ⟨b8, 2, none⟩) l8).trans n82; have c3 := (hSw.cell (p := ⟨b8, 3, none⟩) l8).trans n83; go_simp; try with_reducible rfl)
 try simp only [pu0, puN, pu1, pu2, pu3]
 refine wpAnyH_ready (rs := [17]) (by kernel_rfl) (by simp) ?_
 refine (AllReadyH.cons (o := _) rfl (fun K hK => ?_) AllReadyH.nil)
 go_simp
 refine (V2.out _ (Below.hlink B9.out T51)).mono ?_
 rintro e P57 ⟨rfl, hb57⟩
 have T57 := T51.trans (hb57.mono T51.size)
 try go_wp2_with fail
 refine hK.out _ _ T57 (fun hS57 => ?_)
 clear hK K
 try simp only [pu0, puN, pu1, pu2, pu3]
 refine wpAnyH_take (i := 18) (oi := ({ dst := some 82, op := Op.pick (Operand.tmp 77) (Operand.tmp 81) (Operand.const (Value.bool false)), type := 4, pos := "law.go:35", after := #[{ on := 13, ground := Ground.data }, { on := 17, ground := Ground.data }], guard := none } : Oper)) (v := ?av58) rfl (by kernel_rfl) (by kernel_rfl) (by kernel_rfl) (fun _ _ _ h => h) (Or.inl ⟨by rfl, ?ay58⟩) T57 ?_
 case ay58 => (intro V hSw; go_simp; try with_reducible rfl)
 try simp only [pu0, puN, pu1, pu2, pu3]
 refine wpAnyH_take (i := 19) (oi := ({ dst := some 83, op := Op.move (Operand.tmp 82), type := 4, pos := "law.go:35", after := #[{ on := 18, ground := Ground.data }, { on := 17, ground := Ground.chain }], guard := none } : Oper)) (v := ?av59) rfl (by kernel_rfl) (by kernel_rfl) (by kernel_rfl) (fun _ _ _ h => h) (Or.inl ⟨by rfl, ?ay59⟩) T57 ?_
 case ay59 => (intro V hSw; go_simp; try with_reducible rfl)
 try simp only [pu0, puN, pu1, pu2, pu3]
 refine wpAnyH_take (i := 20) (oi := ({ dst := some 84, op := Op.move (Operand.tmp 1), type := 32, pos := "law.go:35", after := #[{ on := 19, ground := Ground.guard }], guard := some (19, true) } : Oper)) (v := ?av60) rfl (by kernel_rfl) (by kernel_rfl) (by kernel_rfl) (fun _ _ _ h => h) (Or.inl ⟨by rfl, ?ay60⟩) T57 ?_
 case ay60 => (intro V hSw; go_simp; try with_reducible rfl)
 try simp only [pu0, puN, pu1, pu2, pu3]
 refine wpAnyH_take (i := 21) (oi := ({ dst := some 85, op := Op.load 64 (Operand.tmp 6), type := 64, pos := "law.go:35", after := #[{ on := 19, ground := Ground.guard }], guard := some (19, true) } : Oper)) (v := ?av61) rfl (by kernel_rfl) (by kernel_rfl) (by kernel_rfl) (fun _ _ _ h => h) (Or.inl ⟨by rfl, ?ay61⟩) T57 ?_
 case ay61 => (intro V hSw; have c0 := (hSw.cell (p := ⟨b6, 0, none⟩) l6).trans n60; have c1 := (hSw.cell (p := ⟨b6, 1, none⟩) l6).trans n61; have c2 := (hSw.cell (p := ⟨b6, 2, none⟩) l6).trans n62; have c3 := (hSw.cell (p := ⟨b6, 3, none⟩) l6).trans n63; go_simp; try with_reducible rfl)
 try simp only [pu0, puN, pu1, pu2, pu3]
 refine wpAnyH_ready (rs := [22]) (by kernel_rfl) (by simp) ?_
 refine (AllReadyH.cons (o := _) rfl (fun K hK => ?_) AllReadyH.nil)
 go_simp
 refine (ref84_any ⟨#[79, 98, 106, 101, 99, 116]⟩ _).mono ?_
 rintro e P62 ⟨rfl, hb62⟩
 have T62 := T57.trans (hb62.mono T57.size)
 try go_wp2_with fail
 refine hK.out _ _ T62 (fun hS62 => ?_)
 clear hK K
 try simp only [pu0, puN, pu1, pu2, pu3]
 refine wpAnyH_ready (rs := [23]) (by kernel_rfl) (by simp) ?_
 refine (AllReadyH.cons (o := _) rfl (fun K hK => ?_) AllReadyH.nil)
 go_simp
 refine (V3.out _ (Below.hlink B9.out T62)).mono ?_
 rintro e P63 ⟨rfl, hb63⟩
 have T63 := T62.trans (hb63.mono T62.size)
 try go_wp2_with fail
 refine hK.out _ _ T63 (fun hS63 => ?_)
 clear hK K
 try simp only [pu0, puN, pu1, pu2, pu3]
 refine wpAnyH_take (i := 24) (oi := ({ dst := some 88, op := Op.unOp UnOp.not 4 (Operand.tmp 87), type := 4, pos := "law.go:35", after := #[{ on := 23, ground := Ground.data }, { on := 19, ground := Ground.guard }], guard := some (19, true) } : Oper)) (v := ?av64) rfl (by kernel_rfl) (by kernel_rfl) (by kernel_rfl) (fun _ _ _ h => h) (Or.inl ⟨by rfl, ?ay64⟩) T63 ?_
 case ay64 => (intro V hSw; go_simp; try with_reducible rfl)
 try simp only [pu0, puN, pu1, pu2, pu3]
 refine wpAnyH_take (i := 25) (oi := ({ dst := some 89, op := Op.pick (Operand.tmp 83) (Operand.tmp 88) (Operand.const (Value.bool false)), type := 4, pos := "law.go:35", after := #[{ on := 19, ground := Ground.data }, { on := 24, ground := Ground.data }], guard := none } : Oper)) (v := ?av65) rfl (by kernel_rfl) (by kernel_rfl) (by kernel_rfl) (fun _ _ _ h => h) (Or.inl ⟨by rfl, ?ay65⟩) T63 ?_
 case ay65 => (intro V hSw; go_simp; try with_reducible rfl)
 try simp only [pu0, puN, pu1, pu2, pu3]
 refine wpAnyH_take (i := 26) (oi := ({ dst := some 0, op := Op.assign (Operand.tmp 89), type := 4, pos := "law.go:35", after := #[{ on := 25, ground := Ground.data }, { on := 23, ground := Ground.chain }, { on := 0, ground := Ground.phase }, { on := 1, ground := Ground.phase }, { on := 2, ground := Ground.phase }, { on := 3, ground := Ground.phase }, { on := 4, ground := Ground.phase }, { on := 5, ground := Ground.phase }, { on := 6, ground := Ground.phase }, { on := 7, ground := Ground.phase }, { on := 8, ground := Ground.phase }, { on := 9, ground := Ground.phase }, { on := 10, ground := Ground.phase }, { on := 11, ground := Ground.phase }, { on := 12, ground := Ground.phase }, { on := 13, ground := Ground.phase }, { on := 14, ground := Ground.phase }, { on := 15, ground := Ground.phase }, { on := 16, ground := Ground.phase }, { on := 17, ground := Ground.phase }, { on := 18, ground := Ground.phase }, { on := 19, ground := Ground.phase }, { on := 20, ground := Ground.phase }, { on := 21, ground := Ground.phase }, { on := 22, ground := Ground.phase }, { on := 23, ground := Ground.phase }, { on := 24, ground := Ground.phase }, { on := 25, ground := Ground.phase }], guard := none } : Oper)) (v := ?av66) rfl (by kernel_rfl) (by kernel_rfl) (by kernel_rfl) (fun _ _ _ h => h) (Or.inl ⟨by rfl, ?ay66⟩) T63 ?_
 case ay66 => (intro V hSw; go_simp; try with_reducible rfl)
 try simp only [pu0, puN, pu1, pu2, pu3]
 refine wpAnyH_done (by kernel_rfl) ?_ _
 try go_wp2
 go_ret
 exact ⟨rfl, Below.hlink B1.out (Below.hlink BU.out (Below.hlink B9.out T63))⟩
end Go.Proofs.YtmaknddlgppinaaGreatDoor
