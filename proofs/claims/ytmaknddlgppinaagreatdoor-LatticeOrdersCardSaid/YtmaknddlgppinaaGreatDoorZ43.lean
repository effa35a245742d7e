/-
  CUT and joined from the texts of this seat: Mg
-/
import Derived.Test.YtmaknddlgppinaaGreatDoorZ01
import Derived.Test.YtmaknddlgppinaaGreatDoorZ41
import Derived.Test.YtmaknddlgppinaaGreatDoorZ42
set_option linter.unusedVariables false
set_option linter.unusedSimpArgs false
namespace Go.Proofs.YtmaknddlgppinaaGreatDoor
open Go.RowKit
set_option maxRecDepth 1000000 in
set_option maxHeartbeats 100000000 in
theorem orders7_any {w : World} (hN : Blt w) {B0 : Nat} (l : List Int) (v : Value) (hi : IRow B0 w v l) (hl : ∀ z ∈ l, B64 z) (hB : B0 ≤ w.heap.size) :
  Calls Tryz.prog 11 #[v] w fun e w' => e = .returned (.bool true) ∧ Below w.heap.size w w' := by
 have HN := Lib.hid hN
 have HL := Lib.hid hl
 have HI0 := Lib.hid hi
 obtain ⟨Av, cv, rfl, hcv, hmv, _⟩ := id hi
 clear hN hl hi hcv
 have hM : ((l.length : Nat) : Int) ≤ 9223372036854775807 := by unfold maxLen at hmv; omega
 clear hmv
 go_enter Tryz.func11, Tryz.ntmps11
 go_wp2_with fail
 refine (shown7_any HN.out).mono ?_
 rintro e w1 ⟨rfl, b1⟩
 have B1 := Lib.hid b1
 clear b1
 go_wp2_with fail
 refine (tables7_any (HN.out.below B1.out)).mono ?_
 rintro e U ⟨Bt, nb, mb, A, cap, cl, sl, S, pu, rfl, ht, b2⟩
 have BU := Lib.hid (Below.hlink B1.out b2)
 have HT := Lib.hid ht
 have X := Lib.hid (Below.refl U.heap.size U)
 have HI := Lib.hid ((HI0.out.keep (fun p hp => BU.out.cell (Nat.lt_of_lt_of_le hp hB))).more (Nat.le_trans hB BU.out.size))
 clear ht b2 B1 HN HI0
 obtain ⟨q, hq⟩ : ∃ q, q = min l.length 12 := ⟨_, rfl⟩
 have hq1 : q ≤ l.length := by omega
 have hq2 : q ≤ 12 := by omega
 have hq3 : ∀ i : Nat, q ≤ i → i < l.length → 12 ≤ i := fun i h1 h2 => by omega
 clear hq
 go_wp2
 go_loopg [6] q (fun g iv wx => ∃ i : Nat, iv = .int .i64 i ∧ i + g = q ∧ Below U.heap.size U wx)
 case atStart => exact ⟨0, rfl, by omega, Below.refl _ _⟩
 case round => as_aux_lemma =>
  obtain ⟨i, rfl, hig, hb⟩ := hrel
  obtain ⟨gi, hgn⟩ : ∃ g, g = gk := ⟨_, rfl⟩
  subst hgn
  have Zi := Lib.hid (Below.refl U.heap.size U)
  obtain ⟨V1, hV⟩ : ∃ x, x = wr := ⟨_, rfl⟩
  subst hV
  replace X := Lib.hid (X.out.trans (hb.mono X.out.size))
  replace Zi := Lib.hid (Zi.out.trans (hb.mono Zi.out.size))
  clear hb
  have hi1 : (i : Int) < l.length ∨ l.length ≤ i := by omega
  by_cases hiq : i < q
  ·have hgxi : gi - 1 < gi := by omega
   have ei1 : decide ((i : Int) < l.length) = true := decide_eq_true (by omega)
   have ei2 : decide ((i : Int) < 12) = true := decide_eq_true (by omega)
   have wi : IntKind.i64.wrap ((i : Int) + 1) = ((i + 1 : Nat) : Int) := by rw [IntWalk.i64_in _ (by omega)]; omega
   obtain ⟨z1, hz1⟩ : ∃ z, l[i]? = some z := ⟨_, List.getElem?_eq_getElem (by omega)⟩
   obtain ⟨bt, ot, e0, hbt1, ce⟩ := IRow.at_ HI.out hz1
   have HC1 := Lib.hid (HL.out z1 (List.mem_of_getElem? hz1))
   subst e0
   have hbt := hbt1
   have CE1 := Lib.hid ce
   clear ce hz1 hbt1
   go_upto_region 10 with fail
   go_cut [7] (fun va wx => ∃ y k d n s, va = .pointer (some ⟨y, 0, none⟩) ∧ (k, d, s, n) ∈ kq17 ∧ Below V1.heap.size V1 wx ∧ wx.heap[y]? = some (.cells #[.int .i64 k, .int .i64 d, .string s, .int .i64 n] 64 (0, 0)))
   case first => as_aux_lemma =>
    have e1 := (X.out.cell (p := ⟨bt, ot + i, none⟩) hbt).trans CE1.out
    have hbtw : bt < V1.heap.size := Nat.lt_of_lt_of_le hbt X.out.size
    go_wp2_with fail
    refine (known_q _ HC1.out _).mono ?_
    rintro e w9 ⟨k, d, n, s, hm, rfl, hb⟩
    have HM := Lib.hid hm
    have HB := Lib.hid hb
    clear hm hb
    go_wp2_with fail
    go_meet
    case rel => exact ⟨_, k, d, n, s, rfl, HM.out, HB.out.alloc HB.out.size _, hheap_new _ _⟩
   obtain ⟨y1, k1, d1, n1, s1, rfl, hm, hb, hy⟩ := hcut
   obtain ⟨V2, hV⟩ : ∃ x, x = wc := ⟨_, rfl⟩
   subst hV
   replace X := Lib.hid (X.out.trans (hb.mono X.out.size))
   replace Zi := Lib.hid (Zi.out.trans (hb.mono Zi.out.size))
   have H1 := Lib.hid hy
   have OK1 := Lib.hid (ok17 hm)
   have SZ1 := Lib.hid (sz17 hm)
   clear hb hy hm
   go_upto_region 11 with fail
   go_cut [58] (fun va wx => va = .bool false ∧ Below V2.heap.size V2 wx)
   case first => as_aux_lemma =>
    have m1 := H1.out
    have m10 := kcells_of m1 0
    have m11 := kcells_of m1 1
    have m12 := kcells_of m1 2
    have m13 := kcells_of m1 3
    simp only [List.getElem?_toArray, List.getElem?_cons_succ, List.getElem?_cons_zero] at m10 m11 m12 m13
    have hl1 := lt_of_block m1
    clear m1
    have T0 := (Below.refl V2.heap.size V2).drew
    refine wp_region_held_drew (S := fun W => Below V2.heap.size V2 W) (by kernel_rfl) T0 (fun hS0 => ?_)
    refine wpAnyH_take (i := 0) (oi := ({ dst := some 41, op := Op.load 64 (Operand.tmp 7), type := 64, pos := "law.go:154", after := #[], guard := none } : Oper)) (v := ?av1) rfl (by kernel_rfl) (by kernel_rfl) (by kernel_rfl) (fun _ _ _ h => h) (Or.inl ⟨by rfl, ?ay1⟩) T0 ?_
    case ay1 => (intro V hSw; have c10 := (hSw.cell (p := ⟨y1, 0, none⟩) hl1).trans m10; have c11 := (hSw.cell (p := ⟨y1, 1, none⟩) hl1).trans m11; have c12 := (hSw.cell (p := ⟨y1, 2, none⟩) hl1).trans m12; have c13 := (hSw.cell (p := ⟨y1, 3, none⟩) hl1).trans m13; go_simp; try with_reducible rfl)
    try simp only [pu0, puN, pu1, pu2, pu3]
    refine wpAnyH_ready (rs := [1]) (by kernel_rfl) (by simp) ?_
    refine (AllReadyH.cons (o := _) rfl (fun K hK => ?_) AllReadyH.nil)
    go_simp
    refine ((Right64_any k1 d1 n1 s1 _).mono (fun e w' h => yesR h OK1.out.1)).mono ?_
    rintro e P2 ⟨rfl, hb2⟩
    have T2 := T0.trans (hb2.mono T0.size)
    try go_wp2_with fail
    refine hK.out _ _ T2 (fun hS2 => ?_)
    clear hK K
    try simp only [pu0, puN, pu1, pu2, pu3]
    refine wpAnyH_take (i := 2) (oi := ({ dst := some 43, op := Op.unOp UnOp.not 4 (Operand.tmp 42), type := 4, pos := "law.go:154", after := #[{ on := 1, ground := Ground.data }], guard := none } : Oper)) (v := ?av3) rfl (by kernel_rfl) (by kernel_rfl) (by kernel_rfl) (fun _ _ _ h => h) (Or.inl ⟨by rfl, ?ay3⟩) T2 ?_
    case ay3 => (intro V hSw; go_simp; try with_reducible rfl)
    try simp only [pu0, puN, pu1, pu2, pu3]
    refine wpAnyH_take (i := 3) (oi := ({ dst := some 44, op := Op.move (Operand.tmp 43), type := 4, pos := "law.go:154", after := #[{ on := 2, ground := Ground.data }, { on := 1, ground := Ground.chain }], guard := none } : Oper)) (v := ?av4) rfl (by kernel_rfl) (by kernel_rfl) (by kernel_rfl) (fun _ _ _ h => h) (Or.inl ⟨by rfl, ?ay4⟩) T2 ?_
    case ay4 => (intro V hSw; go_simp; try with_reducible rfl)
    try simp only [pu0, puN, pu1, pu2, pu3]
    refine wpAnyH_take (i := 4) (oi := ({ dst := some 45, op := Op.move (Operand.tmp 4), type := 32, pos := "law.go:154", after := #[{ on := 3, ground := Ground.guard }], guard := some (3, false) } : Oper)) (v := ?av5) rfl (by kernel_rfl) (by kernel_rfl) (by kernel_rfl) (fun _ _ _ h => h) (Or.inl ⟨by rfl, ?ay5⟩) T2 ?_
    case ay5 => (intro V hSw; go_simp; try with_reducible rfl)
    try simp only [pu0, puN, pu1, pu2, pu3]
    refine wpAnyH_take (i := 5) (oi := ({ dst := some 46, op := Op.load 64 (Operand.tmp 7), type := 64, pos := "law.go:154", after := #[{ on := 3, ground := Ground.guard }], guard := some (3, false) } : Oper)) (v := ?av6) rfl (by kernel_rfl) (by kernel_rfl) (by kernel_rfl) (fun _ _ _ h => h) (Or.inl ⟨by rfl, ?ay6⟩) T2 ?_
    case ay6 => (intro V hSw; have c10 := (hSw.cell (p := ⟨y1, 0, none⟩) hl1).trans m10; have c11 := (hSw.cell (p := ⟨y1, 1, none⟩) hl1).trans m11; have c12 := (hSw.cell (p := ⟨y1, 2, none⟩) hl1).trans m12; have c13 := (hSw.cell (p := ⟨y1, 3, none⟩) hl1).trans m13; go_simp; try with_reducible rfl)
    try simp only [pu0, puN, pu1, pu2, pu3]
    refine wpAnyH_take (i := 6) (oi := ({ dst := some 47, op := Op.load 64 (Operand.tmp 7), type := 64, pos := "law.go:154", after := #[{ on := 3, ground := Ground.guard }], guard := some (3, false) } : Oper)) (v := ?av7) rfl (by kernel_rfl) (by kernel_rfl) (by kernel_rfl) (fun _ _ _ h => h) (Or.inl ⟨by rfl, ?ay7⟩) T2 ?_
    case ay7 => (intro V hSw; have c10 := (hSw.cell (p := ⟨y1, 0, none⟩) hl1).trans m10; have c11 := (hSw.cell (p := ⟨y1, 1, none⟩) hl1).trans m11; have c12 := (hSw.cell (p := ⟨y1, 2, none⟩) hl1).trans m12; have c13 := (hSw.cell (p := ⟨y1, 3, none⟩) hl1).trans m13; go_simp; try with_reducible rfl)
    try simp only [pu0, puN, pu1, pu2, pu3]
    refine wpAnyH_take (i := 8) (oi := ({ dst := some 49, op := Op.load 64 (Operand.tmp 7), type := 64, pos := "law.go:154", after := #[{ on := 3, ground := Ground.guard }], guard := some (3, false) } : Oper)) (v := ?av8) rfl (by kernel_rfl) (by kernel_rfl) (by kernel_rfl) (fun _ _ _ h => h) (Or.inl ⟨by rfl, ?ay8⟩) T2 ?_
    case ay8 => (intro V hSw; have c10 := (hSw.cell (p := ⟨y1, 0, none⟩) hl1).trans m10; have c11 := (hSw.cell (p := ⟨y1, 1, none⟩) hl1).trans m11; have c12 := (hSw.cell (p := ⟨y1, 2, none⟩) hl1).trans m12; have c13 := (hSw.cell (p := ⟨y1, 3, none⟩) hl1).trans m13; go_simp; try with_reducible rfl)
    try simp only [pu0, puN, pu1, pu2, pu3]
    refine wpAnyH_ready (rs := [7]) (by kernel_rfl) (by simp) ?_
    refine (AllReadyH.cons (o := _) rfl (fun K hK => ?_) AllReadyH.nil)
    go_simp
    refine ((Join_any (HT.out.below ((X.out.trans (T2.mono X.out.size)).mono HT.out.hB)) SZ1.out SZ1.out).mono (fun e w' h => KAns.lit h k1 d1 n1 s1 (joinK_self good7 hV7 OK1.out))).mono ?_
    rintro e P9 ⟨rfl, hb9⟩
    have T9 := T2.trans (hb9.mono T2.size)
    try go_wp2_with fail
    refine hK.out _ _ T9 (fun hS9 => ?_)
    clear hK K
    try simp only [pu0, puN, pu1, pu2, pu3]
    refine wpAnyH_take (i := 9) (oi := ({ dst := some 50, op := Op.binOp BinOp.neq 64 (Operand.tmp 48) (Operand.tmp 49) 64, type := 4, pos := "law.go:154", after := #[{ on := 7, ground := Ground.data }, { on := 8, ground := Ground.data }, { on := 3, ground := Ground.guard }], guard := some (3, false) } : Oper)) (v := ?av10) rfl (by kernel_rfl) (by kernel_rfl) (by kernel_rfl) (fun _ _ _ h => h) (Or.inl ⟨by rfl, ?ay10⟩) T9 ?_
    case ay10 => (intro V hSw; have qn := neq64_same k1 d1 n1 s1 V; go_simp; try with_reducible rfl)
    try simp only [pu0, puN, pu1, pu2, pu3]
    refine wpAnyH_take (i := 10) (oi := ({ dst := some 51, op := Op.pick (Operand.tmp 44) (Operand.const (Value.bool true)) (Operand.tmp 50), type := 4, pos := "law.go:154", after := #[{ on := 3, ground := Ground.data }, { on := 9, ground := Ground.data }], guard := none } : Oper)) (v := ?av11) rfl (by kernel_rfl) (by kernel_rfl) (by kernel_rfl) (fun _ _ _ h => h) (Or.inl ⟨by rfl, ?ay11⟩) T9 ?_
    case ay11 => (intro V hSw; go_simp; try with_reducible rfl)
    try simp only [pu0, puN, pu1, pu2, pu3]
    refine wpAnyH_take (i := 11) (oi := ({ dst := some 52, op := Op.move (Operand.tmp 51), type := 4, pos := "law.go:154", after := #[{ on := 10, ground := Ground.data }, { on := 7, ground := Ground.chain }], guard := none } : Oper)) (v := ?av12) rfl (by kernel_rfl) (by kernel_rfl) (by kernel_rfl) (fun _ _ _ h => h) (Or.inl ⟨by rfl, ?ay12⟩) T9 ?_
    case ay12 => (intro V hSw; go_simp; try with_reducible rfl)
    try simp only [pu0, puN, pu1, pu2, pu3]
    refine wpAnyH_take (i := 12) (oi := ({ dst := some 53, op := Op.move (Operand.tmp 4), type := 32, pos := "law.go:154", after := #[{ on := 11, ground := Ground.guard }], guard := some (11, false) } : Oper)) (v := ?av13) rfl (by kernel_rfl) (by kernel_rfl) (by kernel_rfl) (fun _ _ _ h => h) (Or.inl ⟨by rfl, ?ay13⟩) T9 ?_
    case ay13 => (intro V hSw; go_simp; try with_reducible rfl)
    try simp only [pu0, puN, pu1, pu2, pu3]
    refine wpAnyH_take (i := 13) (oi := ({ dst := some 54, op := Op.load 64 (Operand.tmp 7), type := 64, pos := "law.go:154", after := #[{ on := 11, ground := Ground.guard }], guard := some (11, false) } : Oper)) (v := ?av14) rfl (by kernel_rfl) (by kernel_rfl) (by kernel_rfl) (fun _ _ _ h => h) (Or.inl ⟨by rfl, ?ay14⟩) T9 ?_
    case ay14 => (intro V hSw; have c10 := (hSw.cell (p := ⟨y1, 0, none⟩) hl1).trans m10; have c11 := (hSw.cell (p := ⟨y1, 1, none⟩) hl1).trans m11; have c12 := (hSw.cell (p := ⟨y1, 2, none⟩) hl1).trans m12; have c13 := (hSw.cell (p := ⟨y1, 3, none⟩) hl1).trans m13; go_simp; try with_reducible rfl)
    try simp only [pu0, puN, pu1, pu2, pu3]
    refine wpAnyH_take (i := 14) (oi := ({ dst := some 55, op := Op.load 64 (Operand.tmp 7), type := 64, pos := "law.go:154", after := #[{ on := 11, ground := Ground.guard }], guard := some (11, false) } : Oper)) (v := ?av15) rfl (by kernel_rfl) (by kernel_rfl) (by kernel_rfl) (fun _ _ _ h => h) (Or.inl ⟨by rfl, ?ay15⟩) T9 ?_
    case ay15 => (intro V hSw; have c10 := (hSw.cell (p := ⟨y1, 0, none⟩) hl1).trans m10; have c11 := (hSw.cell (p := ⟨y1, 1, none⟩) hl1).trans m11; have c12 := (hSw.cell (p := ⟨y1, 2, none⟩) hl1).trans m12; have c13 := (hSw.cell (p := ⟨y1, 3, none⟩) hl1).trans m13; go_simp; try with_reducible rfl)
    try simp only [pu0, puN, pu1, pu2, pu3]
    refine wpAnyH_ready (rs := [15]) (by kernel_rfl) (by simp) ?_
    refine (AllReadyH.cons (o := _) rfl (fun K hK => ?_) AllReadyH.nil)
    go_simp
    refine ((Below_any (HT.out.below ((X.out.trans (T9.mono X.out.size)).mono HT.out.hB)) SZ1.out SZ1.out).mono (fun e w' h => BAns.yes h (belowK_refl good7 hV7 OK1.out))).mono ?_
    rintro e P16 ⟨rfl, hb16⟩
    have T16 := T9.trans (hb16.mono T9.size)
    try go_wp2_with fail
    refine hK.out _ _ T16 (fun hS16 => ?_)
    clear hK K
    try simp only [pu0, puN, pu1, pu2, pu3]
    refine wpAnyH_take (i := 16) (oi := ({ dst := some 57, op := Op.unOp UnOp.not 4 (Operand.tmp 56), type := 4, pos := "law.go:154", after := #[{ on := 15, ground := Ground.data }, { on := 11, ground := Ground.guard }], guard := some (11, false) } : Oper)) (v := ?av17) rfl (by kernel_rfl) (by kernel_rfl) (by kernel_rfl) (fun _ _ _ h => h) (Or.inl ⟨by rfl, ?ay17⟩) T16 ?_
    case ay17 => (intro V hSw; go_simp; try with_reducible rfl)
    try simp only [pu0, puN, pu1, pu2, pu3]
    refine wpAnyH_take (i := 17) (oi := ({ dst := some 58, op := Op.pick (Operand.tmp 52) (Operand.const (Value.bool true)) (Operand.tmp 57), type := 4, pos := "law.go:154", after := #[{ on := 11, ground := Ground.data }, { on := 16, ground := Ground.data }], guard := none } : Oper)) (v := ?av18) rfl (by kernel_rfl) (by kernel_rfl) (by kernel_rfl) (fun _ _ _ h => h) (Or.inl ⟨by rfl, ?ay18⟩) T16 ?_
    case ay18 => (intro V hSw; go_simp; try with_reducible rfl)
    try simp only [pu0, puN, pu1, pu2, pu3]
    refine wpAnyH_done (by kernel_rfl) ?_ _
    try go_wp2
    go_meet
    case rel => exact ⟨rfl, T16⟩
   obtain ⟨rfl, hb⟩ := hcut
   obtain ⟨V3, hV⟩ : ∃ x, x = wc := ⟨_, rfl⟩
   subst hV
   replace X := Lib.hid (X.out.trans (hb.mono X.out.size))
   replace Zi := Lib.hid (Zi.out.trans (hb.mono Zi.out.size))
   replace H1 := Lib.hid ((hb.block _ (lt_of_block H1.out)).trans H1.out)
   clear hb
   go_wp2
   go_loopg [8] q (fun g iv wx => ∃ i : Nat, iv = .int .i64 i ∧ i + g = q ∧ Below V3.heap.size V3 wx)
   case atStart => exact ⟨0, rfl, by omega, Below.refl _ _⟩
   case round => as_aux_lemma =>
    obtain ⟨j, rfl, hjg, hb⟩ := hrel
    obtain ⟨gj, hgn⟩ : ∃ g, g = gk := ⟨_, rfl⟩
    subst hgn
    have Zj := Lib.hid (Below.refl V3.heap.size V3)
    obtain ⟨V4, hV⟩ : ∃ x, x = wr := ⟨_, rfl⟩
    subst hV
    replace X := Lib.hid (X.out.trans (hb.mono X.out.size))
    replace Zi := Lib.hid (Zi.out.trans (hb.mono Zi.out.size))
    replace Zj := Lib.hid (Zj.out.trans (hb.mono Zj.out.size))
    replace H1 := Lib.hid ((hb.block _ (lt_of_block H1.out)).trans H1.out)
    clear hb
    have hj1 : (j : Int) < l.length ∨ l.length ≤ j := by omega
    by_cases hjq : j < q
    ·have hgxj : gj - 1 < gj := by omega
     have ej1 : decide ((j : Int) < l.length) = true := decide_eq_true (by omega)
     have ej2 : decide ((j : Int) < 12) = true := decide_eq_true (by omega)
     have wj : IntKind.i64.wrap ((j : Int) + 1) = ((j + 1 : Nat) : Int) := by rw [IntWalk.i64_in _ (by omega)]; omega
     obtain ⟨z2, hz2⟩ : ∃ z, l[j]? = some z := ⟨_, List.getElem?_eq_getElem (by omega)⟩
     obtain ⟨bt2, ot2, e0, hbt2, ce⟩ := IRow.at_ HI.out hz2
     have HC2 := Lib.hid (HL.out z2 (List.mem_of_getElem? hz2))
     injection e0 with e0
     injection e0 with e0 e1
     subst e0
     subst e1
     have CE2 := Lib.hid ce
     clear ce hz2 hbt2
     go_upto_region 16 with fail
     go_cut [9] (fun va wx => ∃ y k d n s, va = .pointer (some ⟨y, 0, none⟩) ∧ (k, d, s, n) ∈ kq17 ∧ Below V4.heap.size V4 wx ∧ wx.heap[y]? = some (.cells #[.int .i64 k, .int .i64 d, .string s, .int .i64 n] 64 (0, 0)))
     case first => as_aux_lemma =>
      have e1 := (X.out.cell (p := ⟨bt, ot + j, none⟩) hbt).trans CE2.out
      have hbtw : bt < V4.heap.size := Nat.lt_of_lt_of_le hbt X.out.size
      go_wp2_with fail
      refine (known_q _ HC2.out _).mono ?_
      rintro e w9 ⟨k, d, n, s, hm, rfl, hb⟩
      have HM := Lib.hid hm
      have HB := Lib.hid hb
      clear hm hb
      go_wp2_with fail
      go_meet
      case rel => exact ⟨_, k, d, n, s, rfl, HM.out, HB.out.alloc HB.out.size _, hheap_new _ _⟩
     obtain ⟨y2, k2, d2, n2, s2, rfl, hm, hb, hy⟩ := hcut
     obtain ⟨V5, hV⟩ : ∃ x, x = wc := ⟨_, rfl⟩
     subst hV
     replace X := Lib.hid (X.out.trans (hb.mono X.out.size))
     replace Zi := Lib.hid (Zi.out.trans (hb.mono Zi.out.size))
     replace Zj := Lib.hid (Zj.out.trans (hb.mono Zj.out.size))
     replace H1 := Lib.hid ((hb.block _ (lt_of_block H1.out)).trans H1.out)
     have H2 := Lib.hid hy
     have OK2 := Lib.hid (ok17 hm)
     have SZ2 := Lib.hid (sz17 hm)
     clear hb hy hm
     go_upto_region 17 with fail
     go_cut [10] (fun va wx => ∃ y k d n s, va = .pointer (some ⟨y, 0, none⟩) ∧ (⟨k, (d, L s), n⟩ : KN) = joinK cs7 VT (⟨k1, (d1, L s1), n1⟩ : KN) (⟨k2, (d2, L s2), n2⟩ : KN) ∧ s.size ≤ 1000000 ∧ Below V5.heap.size V5 wx ∧ wx.heap[y]? = some (.cells #[.int .i64 k, .int .i64 d, .string s, .int .i64 n] 64 (0, 0)))
     case first => as_aux_lemma =>
      have m1 := H1.out
      have m10 := kcells_of m1 0
      have m11 := kcells_of m1 1
      have m12 := kcells_of m1 2
      have m13 := kcells_of m1 3
      simp only [List.getElem?_toArray, List.getElem?_cons_succ, List.getElem?_cons_zero] at m10 m11 m12 m13
      have hl1 := lt_of_block m1
      clear m1
      have m2 := H2.out
      have m20 := kcells_of m2 0
      have m21 := kcells_of m2 1
      have m22 := kcells_of m2 2
      have m23 := kcells_of m2 3
      simp only [List.getElem?_toArray, List.getElem?_cons_succ, List.getElem?_cons_zero] at m20 m21 m22 m23
      have hl2 := lt_of_block m2
      clear m2
      go_wp2_with fail
      refine (Join_any (HT.out.below (X.out.mono HT.out.hB)) SZ1.out SZ2.out).mono ?_
      rintro e w9 ⟨k, d, n, s, rfl, hE, hs, hb⟩
      have HE := Lib.hid hE
      have HS := Lib.hid hs
      have HB := Lib.hid hb
      clear hE hs hb
      go_wp2_with fail
      go_meet
      case rel => exact ⟨_, k, d, n, s, rfl, HE.out, HS.out, HB.out.alloc HB.out.size _, hheap_new _ _⟩
     obtain ⟨y3, k3, d3, n3, s3, rfl, hE, hs, hb, hy⟩ := hcut
     obtain ⟨V6, hV⟩ : ∃ x, x = wc := ⟨_, rfl⟩
     subst hV
     replace X := Lib.hid (X.out.trans (hb.mono X.out.size))
     replace Zi := Lib.hid (Zi.out.trans (hb.mono Zi.out.size))
     replace Zj := Lib.hid (Zj.out.trans (hb.mono Zj.out.size))
     replace H1 := Lib.hid ((hb.block _ (lt_of_block H1.out)).trans H1.out)
     replace H2 := Lib.hid ((hb.block _ (lt_of_block H2.out)).trans H2.out)
     have H3 := Lib.hid hy
     have E3 := Lib.hid hE
     have SZ3 := Lib.hid hs
     have OK3 : Hid (OkK cs7 VT (⟨k3, (d3, L s3), n3⟩ : KN)) := Lib.hid (hE ▸ joinK_ok good7 hV7 OK1.out OK2.out)
     have BX1 := Lib.hid (show BelowK cs7 VT (⟨k1, (d1, L s1), n1⟩ : KN) (⟨k3, (d3, L s3), n3⟩ : KN) from hE ▸ (belowK_join good7 hV7 OK1.out OK2.out).1)
     have BX2 := Lib.hid (show BelowK cs7 VT (⟨k2, (d2, L s2), n2⟩ : KN) (⟨k3, (d3, L s3), n3⟩ : KN) from hE ▸ (belowK_join good7 hV7 OK1.out OK2.out).2)
     have CX := Lib.hid (show joinK cs7 VT (⟨k2, (d2, L s2), n2⟩ : KN) (⟨k1, (d1, L s1), n1⟩ : KN) = (⟨k3, (d3, L s3), n3⟩ : KN) from (joinK_comm good7 hV7 OK2.out OK1.out).trans hE.symm)
     clear hb hy hE hs
     go_upto_region 18 with fail
     go_cut [102] (fun va wx => va = .bool false ∧ Below V6.heap.size V6 wx)
     case first => as_aux_lemma =>
      have m1 := H1.out
      have m10 := kcells_of m1 0
      have m11 := kcells_of m1 1
      have m12 := kcells_of m1 2
      have m13 := kcells_of m1 3
      simp only [List.getElem?_toArray, List.getElem?_cons_succ, List.getElem?_cons_zero] at m10 m11 m12 m13
      have hl1 := lt_of_block m1
      clear m1
      have m2 := H2.out
      have m20 := kcells_of m2 0
      have m21 := kcells_of m2 1
      have m22 := kcells_of m2 2
      have m23 := kcells_of m2 3
      simp only [List.getElem?_toArray, List.getElem?_cons_succ, List.getElem?_cons_zero] at m20 m21 m22 m23
      have hl2 := lt_of_block m2
      clear m2
      have m3 := H3.out
      have m30 := kcells_of m3 0
      have m31 := kcells_of m3 1
      have m32 := kcells_of m3 2
      have m33 := kcells_of m3 3
      simp only [List.getElem?_toArray, List.getElem?_cons_succ, List.getElem?_cons_zero] at m30 m31 m32 m33
      have hl3 := lt_of_block m3
      clear m3
      have T0 := (Below.refl V6.heap.size V6).drew
      refine wp_region_held_drew (S := fun W => Below V6.heap.size V6 W) (by kernel_rfl) T0 (fun hS0 => ?_)
      refine wpAnyH_take (i := 0) (oi := ({ dst := some 78, op := Op.load 64 (Operand.tmp 10), type := 64, pos := "law.go:160", after := #[], guard := none } : Oper)) (v := ?av19) rfl (by kernel_rfl) (by kernel_rfl) (by kernel_rfl) (fun _ _ _ h => h) (Or.inl ⟨by rfl, ?ay19⟩) T0 ?_
      case ay19 => (intro V hSw; have c30 := (hSw.cell (p := ⟨y3, 0, none⟩) hl3).trans m30; have c31 := (hSw.cell (p := ⟨y3, 1, none⟩) hl3).trans m31; have c32 := (hSw.cell (p := ⟨y3, 2, none⟩) hl3).trans m32; have c33 := (hSw.cell (p := ⟨y3, 3, none⟩) hl3).trans m33; go_simp; try with_reducible rfl)
      try simp only [pu0, puN, pu1, pu2, pu3]
      refine wpAnyH_ready (rs := [1]) (by kernel_rfl) (by simp) ?_
      refine (AllReadyH.cons (o := _) rfl (fun K hK => ?_) AllReadyH.nil)
      go_simp
      refine ((Right64_any k3 d3 n3 s3 _).mono (fun e w' h => yesR h OK3.out.1)).mono ?_
      rintro e P20 ⟨rfl, hb20⟩
      have T20 := T0.trans (hb20.mono T0.size)
      try go_wp2_with fail
      refine hK.out _ _ T20 (fun hS20 => ?_)
      clear hK K
      try simp only [pu0, puN, pu1, pu2, pu3]
      refine wpAnyH_take (i := 2) (oi := ({ dst := some 80, op := Op.unOp UnOp.not 4 (Operand.tmp 79), type := 4, pos := "law.go:160", after := #[{ on := 1, ground := Ground.data }], guard := none } : Oper)) (v := ?av21) rfl (by kernel_rfl) (by kernel_rfl) (by kernel_rfl) (fun _ _ _ h => h) (Or.inl ⟨by rfl, ?ay21⟩) T20 ?_
      case ay21 => (intro V hSw; go_simp; try with_reducible rfl)
      try simp only [pu0, puN, pu1, pu2, pu3]
      refine wpAnyH_take (i := 3) (oi := ({ dst := some 81, op := Op.move (Operand.tmp 80), type := 4, pos := "law.go:160", after := #[{ on := 2, ground := Ground.data }, { on := 1, ground := Ground.chain }], guard := none } : Oper)) (v := ?av22) rfl (by kernel_rfl) (by kernel_rfl) (by kernel_rfl) (fun _ _ _ h => h) (Or.inl ⟨by rfl, ?ay22⟩) T20 ?_
      case ay22 => (intro V hSw; go_simp; try with_reducible rfl)
      try simp only [pu0, puN, pu1, pu2, pu3]
      refine wpAnyH_take (i := 4) (oi := ({ dst := some 82, op := Op.move (Operand.tmp 4), type := 32, pos := "law.go:160", after := #[{ on := 3, ground := Ground.guard }], guard := some (3, false) } : Oper)) (v := ?av23) rfl (by kernel_rfl) (by kernel_rfl) (by kernel_rfl) (fun _ _ _ h => h) (Or.inl ⟨by rfl, ?ay23⟩) T20 ?_
      case ay23 => (intro V hSw; go_simp; try with_reducible rfl)
      try simp only [pu0, puN, pu1, pu2, pu3]
      refine wpAnyH_take (i := 5) (oi := ({ dst := some 83, op := Op.load 64 (Operand.tmp 7), type := 64, pos := "law.go:160", after := #[{ on := 3, ground := Ground.guard }], guard := some (3, false) } : Oper)) (v := ?av24) rfl (by kernel_rfl) (by kernel_rfl) (by kernel_rfl) (fun _ _ _ h => h) (Or.inl ⟨by rfl, ?ay24⟩) T20 ?_
      case ay24 => (intro V hSw; have c10 := (hSw.cell (p := ⟨y1, 0, none⟩) hl1).trans m10; have c11 := (hSw.cell (p := ⟨y1, 1, none⟩) hl1).trans m11; have c12 := (hSw.cell (p := ⟨y1, 2, none⟩) hl1).trans m12; have c13 := (hSw.cell (p := ⟨y1, 3, none⟩) hl1).trans m13; go_simp; try with_reducible rfl)
      try simp only [pu0, puN, pu1, pu2, pu3]
      refine wpAnyH_take (i := 6) (oi := ({ dst := some 84, op := Op.load 64 (Operand.tmp 10), type := 64, pos := "law.go:160", after := #[{ on := 3, ground := Ground.guard }], guard := some (3, false) } : Oper)) (v := ?av25) rfl (by kernel_rfl) (by kernel_rfl) (by kernel_rfl) (fun _ _ _ h => h) (Or.inl ⟨by rfl, ?ay25⟩) T20 ?_
      case ay25 => (intro V hSw; have c30 := (hSw.cell (p := ⟨y3, 0, none⟩) hl3).trans m30; have c31 := (hSw.cell (p := ⟨y3, 1, none⟩) hl3).trans m31; have c32 := (hSw.cell (p := ⟨y3, 2, none⟩) hl3).trans m32; have c33 := (hSw.cell (p := ⟨y3, 3, none⟩) hl3).trans m33; go_simp; try with_reducible rfl)
      try simp only [pu0, puN, pu1, pu2, pu3]
      refine wpAnyH_ready (rs := [7]) (by kernel_rfl) (by simp) ?_
      refine (AllReadyH.cons (o := _) rfl (fun K hK => ?_) AllReadyH.nil)
      go_simp
      refine ((Below_any (HT.out.below ((X.out.trans (T20.mono X.out.size)).mono HT.out.hB)) SZ1.out SZ3.out).mono (fun e w' h => BAns.yes h BX1.out)).mono ?_
      rintro e P26 ⟨rfl, hb26⟩
      have T26 := T20.trans (hb26.mono T20.size)
      try go_wp2_with fail
      refine hK.out _ _ T26 (fun hS26 => ?_)
      clear hK K
      try simp only [pu0, puN, pu1, pu2, pu3]
      refine wpAnyH_take (i := 8) (oi := ({ dst := some 86, op := Op.unOp UnOp.not 4 (Operand.tmp 85), type := 4, pos := "law.go:160", after := #[{ on := 7, ground := Ground.data }, { on := 3, ground := Ground.guard }], guard := some (3, false) } : Oper)) (v := ?av27) rfl (by kernel_rfl) (by kernel_rfl) (by kernel_rfl) (fun _ _ _ h => h) (Or.inl ⟨by rfl, ?ay27⟩) T26 ?_
      case ay27 => (intro V hSw; go_simp; try with_reducible rfl)
      try simp only [pu0, puN, pu1, pu2, pu3]
      refine wpAnyH_take (i := 9) (oi := ({ dst := some 87, op := Op.pick (Operand.tmp 81) (Operand.const (Value.bool true)) (Operand.tmp 86), type := 4, pos := "law.go:160", after := #[{ on := 3, ground := Ground.data }, { on := 8, ground := Ground.data }], guard := none } : Oper)) (v := ?av28) rfl (by kernel_rfl) (by kernel_rfl) (by kernel_rfl) (fun _ _ _ h => h) (Or.inl ⟨by rfl, ?ay28⟩) T26 ?_
      case ay28 => (intro V hSw; go_simp; try with_reducible rfl)
      try simp only [pu0, puN, pu1, pu2, pu3]
      refine wpAnyH_take (i := 10) (oi := ({ dst := some 88, op := Op.move (Operand.tmp 87), type := 4, pos := "law.go:160", after := #[{ on := 9, ground := Ground.data }, { on := 7, ground := Ground.chain }], guard := none } : Oper)) (v := ?av29) rfl (by kernel_rfl) (by kernel_rfl) (by kernel_rfl) (fun _ _ _ h => h) (Or.inl ⟨by rfl, ?ay29⟩) T26 ?_
      case ay29 => (intro V hSw; go_simp; try with_reducible rfl)
      try simp only [pu0, puN, pu1, pu2, pu3]
      refine wpAnyH_take (i := 11) (oi := ({ dst := some 89, op := Op.move (Operand.tmp 4), type := 32, pos := "law.go:160", after := #[{ on := 10, ground := Ground.guard }], guard := some (10, false) } : Oper)) (v := ?av30) rfl (by kernel_rfl) (by kernel_rfl) (by kernel_rfl) (fun _ _ _ h => h) (Or.inl ⟨by rfl, ?ay30⟩) T26 ?_
      case ay30 => (intro V hSw; go_simp; try with_reducible rfl)
      try simp only [pu0, puN, pu1, pu2, pu3]
      refine wpAnyH_take (i := 12) (oi := ({ dst := some 90, op := Op.load 64 (Operand.tmp 9), type := 64, pos := "law.go:160", after := #[{ on := 10, ground := Ground.guard }], guard := some (10, false) } : Oper)) (v := ?av31) rfl (by kernel_rfl) (by kernel_rfl) (by kernel_rfl) (fun _ _ _ h => h) (Or.inl ⟨by rfl, ?ay31⟩) T26 ?_
      case ay31 => (intro V hSw; have c20 := (hSw.cell (p := ⟨y2, 0, none⟩) hl2).trans m20; have c21 := (hSw.cell (p := ⟨y2, 1, none⟩) hl2).trans m21; have c22 := (hSw.cell (p := ⟨y2, 2, none⟩) hl2).trans m22; have c23 := (hSw.cell (p := ⟨y2, 3, none⟩) hl2).trans m23; go_simp; try with_reducible rfl)
      try simp only [pu0, puN, pu1, pu2, pu3]
      refine wpAnyH_take (i := 13) (oi := ({ dst := some 91, op := Op.load 64 (Operand.tmp 10), type := 64, pos := "law.go:160", after := #[{ on := 10, ground := Ground.guard }], guard := some (10, false) } : Oper)) (v := ?av32) rfl (by kernel_rfl) (by kernel_rfl) (by kernel_rfl) (fun _ _ _ h => h) (Or.inl ⟨by rfl, ?ay32⟩) T26 ?_
      case ay32 => (intro V hSw; have c30 := (hSw.cell (p := ⟨y3, 0, none⟩) hl3).trans m30; have c31 := (hSw.cell (p := ⟨y3, 1, none⟩) hl3).trans m31; have c32 := (hSw.cell (p := ⟨y3, 2, none⟩) hl3).trans m32; have c33 := (hSw.cell (p := ⟨y3, 3, none⟩) hl3).trans m33; go_simp; try with_reducible rfl)
      try simp only [pu0, puN, pu1, pu2, pu3]
      refine wpAnyH_ready (rs := [14]) (by kernel_rfl) (by simp) ?_
      refine (AllReadyH.cons (o := _) rfl (fun K hK => ?_) AllReadyH.nil)
      go_simp
      refine ((Below_any (HT.out.below ((X.out.trans (T26.mono X.out.size)).mono HT.out.hB)) SZ2.out SZ3.out).mono (fun e w' h => BAns.yes h BX2.out)).mono ?_
      rintro e P33 ⟨rfl, hb33⟩
      have T33 := T26.trans (hb33.mono T26.size)
      try go_wp2_with fail
      refine hK.out _ _ T33 (fun hS33 => ?_)
      clear hK K
      try simp only [pu0, puN, pu1, pu2, pu3]
      refine wpAnyH_take (i := 15) (oi := ({ dst := some 93, op := Op.unOp UnOp.not 4 (Operand.tmp 92), type := 4, pos := "law.go:160", after := #[{ on := 14, ground := Ground.data }, { on := 10, ground := Ground.guard }], guard := some (10, false) } : Oper)) (v := ?av34) rfl (by kernel_rfl) (by kernel_rfl) (by kernel_rfl) (fun _ _ _ h => h) (Or.inl ⟨by rfl, ?ay34⟩) T33 ?_
      case ay34 => (intro V hSw; go_simp; try with_reducible rfl)
      try simp only [pu0, puN, pu1, pu2, pu3]
      refine wpAnyH_take (i := 16) (oi := ({ dst := some 94, op := Op.pick (Operand.tmp 88) (Operand.const (Value.bool true)) (Operand.tmp 93), type := 4, pos := "law.go:160", after := #[{ on := 10, ground := Ground.data }, { on := 15, ground := Ground.data }], guard := none } : Oper)) (v := ?av35) rfl (by kernel_rfl) (by kernel_rfl) (by kernel_rfl) (fun _ _ _ h => h) (Or.inl ⟨by rfl, ?ay35⟩) T33 ?_
      case ay35 => (intro V hSw; go_simp; try with_reducible rfl)
      try simp only [pu0, puN, pu1, pu2, pu3]
      refine wpAnyH_take (i := 17) (oi := ({ dst := some 95, op := Op.move (Operand.tmp 94), type := 4, pos := "law.go:160", after := #[{ on := 16, ground := Ground.data }, { on := 14, ground := Ground.chain }], guard := none } : Oper)) (v := ?av36) rfl (by kernel_rfl) (by kernel_rfl) (by kernel_rfl) (fun _ _ _ h => h) (Or.inl ⟨by rfl, ?ay36⟩) T33 ?_
      case ay36 => (intro V hSw; go_simp; try with_reducible rfl)
      try simp only [pu0, puN, pu1, pu2, pu3]
      refine wpAnyH_take (i := 18) (oi := ({ dst := some 96, op := Op.move (Operand.tmp 4), type := 32, pos := "law.go:160", after := #[{ on := 17, ground := Ground.guard }], guard := some (17, false) } : Oper)) (v := ?av37) rfl (by kernel_rfl) (by kernel_rfl) (by kernel_rfl) (fun _ _ _ h => h) (Or.inl ⟨by rfl, ?ay37⟩) T33 ?_
      case ay37 => (intro V hSw; go_simp; try with_reducible rfl)
      try simp only [pu0, puN, pu1, pu2, pu3]
      refine wpAnyH_take (i := 19) (oi := ({ dst := some 97, op := Op.load 64 (Operand.tmp 9), type := 64, pos := "law.go:160", after := #[{ on := 17, ground := Ground.guard }], guard := some (17, false) } : Oper)) (v := ?av38) rfl (by kernel_rfl) (by kernel_rfl) (by kernel_rfl) (fun _ _ _ h => h) (Or.inl ⟨by rfl, ?ay38⟩) T33 ?_
      case ay38 => (intro V hSw; have c20 := (hSw.cell (p := ⟨y2, 0, none⟩) hl2).trans m20; have c21 := (hSw.cell (p := ⟨y2, 1, none⟩) hl2).trans m21; have c22 := (hSw.cell (p := ⟨y2, 2, none⟩) hl2).trans m22; have c23 := (hSw.cell (p := ⟨y2, 3, none⟩) hl2).trans m23; go_simp; try with_reducible rfl)
      try simp only [pu0, puN, pu1, pu2, pu3]
      refine wpAnyH_take (i := 20) (oi := ({ dst := some 98, op := Op.load 64 (Operand.tmp 7), type := 64, pos := "law.go:160", after := #[{ on := 17, ground := Ground.guard }], guard := some (17, false) } : Oper)) (v := ?av39) rfl (by kernel_rfl) (by kernel_rfl) (by kernel_rfl) (fun _ _ _ h => h) (Or.inl ⟨by rfl, ?ay39⟩) T33 ?_
      case ay39 => (intro V hSw; have c10 := (hSw.cell (p := ⟨y1, 0, none⟩) hl1).trans m10; have c11 := (hSw.cell (p := ⟨y1, 1, none⟩) hl1).trans m11; have c12 := (hSw.cell (p := ⟨y1, 2, none⟩) hl1).trans m12; have c13 := (hSw.cell (p := ⟨y1, 3, none⟩) hl1).trans m13; go_simp; try with_reducible rfl)
      try simp only [pu0, puN, pu1, pu2, pu3]
      refine wpAnyH_take (i := 22) (oi := ({ dst := some 100, op := Op.load 64 (Operand.tmp 10), type := 64, pos := "law.go:160", after := #[{ on := 17, ground := Ground.guard }], guard := some (17, false) } : Oper)) (v := ?av40) rfl (by kernel_rfl) (by kernel_rfl) (by kernel_rfl) (fun _ _ _ h => h) (Or.inl ⟨by rfl, ?ay40⟩) T33 ?_
      case ay40 => (intro V hSw; have c30 := (hSw.cell (p := ⟨y3, 0, none⟩) hl3).trans m30; have c31 := (hSw.cell (p := ⟨y3, 1, none⟩) hl3).trans m31; have c32 := (hSw.cell (p := ⟨y3, 2, none⟩) hl3).trans m32; have c33 := (hSw.cell (p := ⟨y3, 3, none⟩) hl3).trans m33; go_simp; try with_reducible rfl)
      try simp only [pu0, puN, pu1, pu2, pu3]
      refine wpAnyH_ready (rs := [21]) (by kernel_rfl) (by simp) ?_
      refine (AllReadyH.cons (o := _) rfl (fun K hK => ?_) AllReadyH.nil)
      go_simp
      refine ((Join_any (HT.out.below ((X.out.trans (T33.mono X.out.size)).mono HT.out.hB)) SZ2.out SZ1.out).mono (fun e w' h => KAns.lit h k3 d3 n3 s3 CX.out)).mono ?_
      rintro e P41 ⟨rfl, hb41⟩
      have T41 := T33.trans (hb41.mono T33.size)
      try go_wp2_with fail
      refine hK.out _ _ T41 (fun hS41 => ?_)
      clear hK K
      try simp only [pu0, puN, pu1, pu2, pu3]
      refine wpAnyH_take (i := 23) (oi := ({ dst := some 101, op := Op.binOp BinOp.neq 64 (Operand.tmp 99) (Operand.tmp 100) 64, type := 4, pos := "law.go:160", after := #[{ on := 21, ground := Ground.data }, { on := 22, ground := Ground.data }, { on := 17, ground := Ground.guard }], guard := some (17, false) } : Oper)) (v := ?av42) rfl (by kernel_rfl) (by kernel_rfl) (by kernel_rfl) (fun _ _ _ h => h) (Or.inl ⟨by rfl, ?ay42⟩) T41 ?_
      case ay42 => (intro V hSw; have qn := neq64_same k3 d3 n3 s3 V; go_simp; try with_reducible rfl)
      try simp only [pu0, puN, pu1, pu2, pu3]
      refine wpAnyH_take (i := 24) (oi := ({ dst := some 102, op := Op.pick (Operand.tmp 95) (Operand.const (Value.bool true)) (Operand.tmp 101), type := 4, pos := "law.go:160", after := #[{ on := 17, ground := Ground.data }, { on := 23, ground := Ground.data }], guard := none } : Oper)) (v := ?av43) rfl (by kernel_rfl) (by kernel_rfl) (by kernel_rfl) (fun _ _ _ h => h) (Or.inl ⟨by rfl, ?ay43⟩) T41 ?_
      case ay43 => (intro V hSw; go_simp; try with_reducible rfl)
      try simp only [pu0, puN, pu1, pu2, pu3]
      refine wpAnyH_done (by kernel_rfl) ?_ _
      try go_wp2
      go_meet
      case rel => exact ⟨rfl, T41⟩
     obtain ⟨rfl, hb⟩ := hcut
     obtain ⟨V7, hV⟩ : ∃ x, x = wc := ⟨_, rfl⟩
     subst hV
     replace X := Lib.hid (X.out.trans (hb.mono X.out.size))
     replace Zi := Lib.hid (Zi.out.trans (hb.mono Zi.out.size))
     replace Zj := Lib.hid (Zj.out.trans (hb.mono Zj.out.size))
     replace H1 := Lib.hid ((hb.block _ (lt_of_block H1.out)).trans H1.out)
     replace H2 := Lib.hid ((hb.block _ (lt_of_block H2.out)).trans H2.out)
     replace H3 := Lib.hid ((hb.block _ (lt_of_block H3.out)).trans H3.out)
     clear hb
     go_wp2
     go_loopg [11] q (fun g iv wx => ∃ i : Nat, iv = .int .i64 i ∧ i + g = q ∧ Below V7.heap.size V7 wx)
     case atStart => exact ⟨0, rfl, by omega, Below.refl _ _⟩
     case round => as_aux_lemma =>
      obtain ⟨m, rfl, hmg, hb⟩ := hrel
      obtain ⟨gm, hgn⟩ : ∃ g, g = gk := ⟨_, rfl⟩
      subst hgn
      have Zm := Lib.hid (Below.refl V7.heap.size V7)
      obtain ⟨V8, hV⟩ : ∃ x, x = wr := ⟨_, rfl⟩
      subst hV
      replace X := Lib.hid (X.out.trans (hb.mono X.out.size))
      replace Zi := Lib.hid (Zi.out.trans (hb.mono Zi.out.size))
      replace Zj := Lib.hid (Zj.out.trans (hb.mono Zj.out.size))
      replace Zm := Lib.hid (Zm.out.trans (hb.mono Zm.out.size))
      replace H1 := Lib.hid ((hb.block _ (lt_of_block H1.out)).trans H1.out)
      replace H2 := Lib.hid ((hb.block _ (lt_of_block H2.out)).trans H2.out)
      replace H3 := Lib.hid ((hb.block _ (lt_of_block H3.out)).trans H3.out)
      clear hb
      have hm1 : (m : Int) < l.length ∨ l.length ≤ m := by omega
      by_cases hmq : m < q
      ·have hgxm : gm - 1 < gm := by omega
       have em1 : decide ((m : Int) < l.length) = true := decide_eq_true (by omega)
       have em2 : decide ((m : Int) < 12) = true := decide_eq_true (by omega)
       have wm : IntKind.i64.wrap ((m : Int) + 1) = ((m + 1 : Nat) : Int) := by rw [IntWalk.i64_in _ (by omega)]; omega
       obtain ⟨z4, hz4⟩ : ∃ z, l[m]? = some z := ⟨_, List.getElem?_eq_getElem (by omega)⟩
       obtain ⟨bt4, ot4, e0, hbt4, ce⟩ := IRow.at_ HI.out hz4
       have HC4 := Lib.hid (HL.out z4 (List.mem_of_getElem? hz4))
       injection e0 with e0
       injection e0 with e0 e1
       subst e0
       subst e1
       have CE4 := Lib.hid ce
       clear ce hz4 hbt4
       go_upto_region 23 with fail
       go_cut [12] (fun va wx => ∃ y k d n s, va = .pointer (some ⟨y, 0, none⟩) ∧ (k, d, s, n) ∈ kq17 ∧ Below V8.heap.size V8 wx ∧ wx.heap[y]? = some (.cells #[.int .i64 k, .int .i64 d, .string s, .int .i64 n] 64 (0, 0)))
       case first => as_aux_lemma =>
        have e1 := (X.out.cell (p := ⟨bt, ot + m, none⟩) hbt).trans CE4.out
        have hbtw : bt < V8.heap.size := Nat.lt_of_lt_of_le hbt X.out.size
        go_wp2_with fail
        refine (known_q _ HC4.out _).mono ?_
        rintro e w9 ⟨k, d, n, s, hm, rfl, hb⟩
        have HM := Lib.hid hm
        have HB := Lib.hid hb
        clear hm hb
        go_wp2_with fail
        go_meet
        case rel => exact ⟨_, k, d, n, s, rfl, HM.out, HB.out.alloc HB.out.size _, hheap_new _ _⟩
       obtain ⟨y4, k4, d4, n4, s4, rfl, hm, hb, hy⟩ := hcut
       obtain ⟨V9, hV⟩ : ∃ x, x = wc := ⟨_, rfl⟩
       subst hV
       replace X := Lib.hid (X.out.trans (hb.mono X.out.size))
       replace Zi := Lib.hid (Zi.out.trans (hb.mono Zi.out.size))
       replace Zj := Lib.hid (Zj.out.trans (hb.mono Zj.out.size))
       replace Zm := Lib.hid (Zm.out.trans (hb.mono Zm.out.size))
       replace H1 := Lib.hid ((hb.block _ (lt_of_block H1.out)).trans H1.out)
       replace H2 := Lib.hid ((hb.block _ (lt_of_block H2.out)).trans H2.out)
       replace H3 := Lib.hid ((hb.block _ (lt_of_block H3.out)).trans H3.out)
       have H4 := Lib.hid hy
       have OK4 := Lib.hid (ok17 hm)
       have SZ4 := Lib.hid (sz17 hm)
       clear hb hy hm
       go_upto_region 24 with fail
       go_cut [148] (fun va wx => va = .bool false ∧ Below V9.heap.size V9 wx)
       case first => as_aux_lemma =>
        have m1 := H1.out
        have m10 := kcells_of m1 0
        have m11 := kcells_of m1 1
        have m12 := kcells_of m1 2
        have m13 := kcells_of m1 3
        simp only [List.getElem?_toArray, List.getElem?_cons_succ, List.getElem?_cons_zero] at m10 m11 m12 m13
        have hl1 := lt_of_block m1
        clear m1
        have m2 := H2.out
        have m20 := kcells_of m2 0
        have m21 := kcells_of m2 1
        have m22 := kcells_of m2 2
        have m23 := kcells_of m2 3
        simp only [List.getElem?_toArray, List.getElem?_cons_succ, List.getElem?_cons_zero] at m20 m21 m22 m23
        have hl2 := lt_of_block m2
        clear m2
        have m3 := H3.out
        have m30 := kcells_of m3 0
        have m31 := kcells_of m3 1
        have m32 := kcells_of m3 2
        have m33 := kcells_of m3 3
        simp only [List.getElem?_toArray, List.getElem?_cons_succ, List.getElem?_cons_zero] at m30 m31 m32 m33
        have hl3 := lt_of_block m3
        clear m3
        have m4 := H4.out
        have m40 := kcells_of m4 0
        have m41 := kcells_of m4 1
        have m42 := kcells_of m4 2
        have m43 := kcells_of m4 3
        simp only [List.getElem?_toArray, List.getElem?_cons_succ, List.getElem?_cons_zero] at m40 m41 m42 m43
        have hl4 := lt_of_block m4
        clear m4
        by_cases hab : BelowK cs7 VT (⟨k1, (d1, L s1), n1⟩ : KN) (⟨k2, (d2, L s2), n2⟩ : KN)
        ·have HAB := Lib.hid hab
         clear hab
         by_cases hbc : BelowK cs7 VT (⟨k2, (d2, L s2), n2⟩ : KN) (⟨k4, (d4, L s4), n4⟩ : KN)
         ·have HBC := Lib.hid hbc
          clear hbc
          have T0 := (Below.refl V9.heap.size V9).drew
          refine wp_region_held_drew (S := fun W => Below V9.heap.size V9 W) (by kernel_rfl) T0 (fun hS0 => ?_)
          refine wpAnyH_take (i := 0) (oi := ({ dst := some 118, op := Op.move (Operand.tmp 4), type := 32, pos := "law.go:165", after := #[], guard := none } : Oper)) (v := ?av44) rfl (by kernel_rfl) (by kernel_rfl) (by kernel_rfl) (fun _ _ _ h => h) (Or.inl ⟨by rfl, ?ay44⟩) T0 ?_
          case ay44 => (intro V hSw; go_simp; try with_reducible rfl)
          try simp only [pu0, puN, pu1, pu2, pu3]
          refine wpAnyH_take (i := 1) (oi := ({ dst := some 119, op := Op.load 64 (Operand.tmp 10), type := 64, pos := "law.go:165", after := #[], guard := none } : Oper)) (v := ?av45) rfl (by kernel_rfl) (by kernel_rfl) (by kernel_rfl) (fun _ _ _ h => h) (Or.inl ⟨by rfl, ?ay45⟩) T0 ?_
          case ay45 => (intro V hSw; have c30 := (hSw.cell (p := ⟨y3, 0, none⟩) hl3).trans m30; have c31 := (hSw.cell (p := ⟨y3, 1, none⟩) hl3).trans m31; have c32 := (hSw.cell (p := ⟨y3, 2, none⟩) hl3).trans m32; have c33 := (hSw.cell (p := ⟨y3, 3, none⟩) hl3).trans m33; go_simp; try with_reducible rfl)
          try simp only [pu0, puN, pu1, pu2, pu3]
          refine wpAnyH_take (i := 2) (oi := ({ dst := some 120, op := Op.load 64 (Operand.tmp 12), type := 64, pos := "law.go:165", after := #[], guard := none } : Oper)) (v := ?av46) rfl (by kernel_rfl) (by kernel_rfl) (by kernel_rfl) (fun _ _ _ h => h) (Or.inl ⟨by rfl, ?ay46⟩) T0 ?_
          case ay46 => (intro V hSw; have c40 := (hSw.cell (p := ⟨y4, 0, none⟩) hl4).trans m40; have c41 := (hSw.cell (p := ⟨y4, 1, none⟩) hl4).trans m41; have c42 := (hSw.cell (p := ⟨y4, 2, none⟩) hl4).trans m42; have c43 := (hSw.cell (p := ⟨y4, 3, none⟩) hl4).trans m43; go_simp; try with_reducible rfl)
          try simp only [pu0, puN, pu1, pu2, pu3]
          refine wpAnyH_take (i := 4) (oi := ({ dst := some 122, op := Op.move (Operand.tmp 4), type := 32, pos := "law.go:165", after := #[], guard := none } : Oper)) (v := ?av47) rfl (by kernel_rfl) (by kernel_rfl) (by kernel_rfl) (fun _ _ _ h => h) (Or.inl ⟨by rfl, ?ay47⟩) T0 ?_
          case ay47 => (intro V hSw; go_simp; try with_reducible rfl)
          try simp only [pu0, puN, pu1, pu2, pu3]
          refine wpAnyH_take (i := 5) (oi := ({ dst := some 123, op := Op.load 64 (Operand.tmp 7), type := 64, pos := "law.go:165", after := #[], guard := none } : Oper)) (v := ?av48) rfl (by kernel_rfl) (by kernel_rfl) (by kernel_rfl) (fun _ _ _ h => h) (Or.inl ⟨by rfl, ?ay48⟩) T0 ?_
          case ay48 => (intro V hSw; have c10 := (hSw.cell (p := ⟨y1, 0, none⟩) hl1).trans m10; have c11 := (hSw.cell (p := ⟨y1, 1, none⟩) hl1).trans m11; have c12 := (hSw.cell (p := ⟨y1, 2, none⟩) hl1).trans m12; have c13 := (hSw.cell (p := ⟨y1, 3, none⟩) hl1).trans m13; go_simp; try with_reducible rfl)
          try simp only [pu0, puN, pu1, pu2, pu3]
          refine wpAnyH_take (i := 6) (oi := ({ dst := some 124, op := Op.move (Operand.tmp 4), type := 32, pos := "law.go:165", after := #[], guard := none } : Oper)) (v := ?av49) rfl (by kernel_rfl) (by kernel_rfl) (by kernel_rfl) (fun _ _ _ h => h) (Or.inl ⟨by rfl, ?ay49⟩) T0 ?_
          case ay49 => (intro V hSw; go_simp; try with_reducible rfl)
          try simp only [pu0, puN, pu1, pu2, pu3]
          refine wpAnyH_take (i := 7) (oi := ({ dst := some 125, op := Op.load 64 (Operand.tmp 9), type := 64, pos := "law.go:165", after := #[], guard := none } : Oper)) (v := ?av50) rfl (by kernel_rfl) (by kernel_rfl) (by kernel_rfl) (fun _ _ _ h => h) (Or.inl ⟨by rfl, ?ay50⟩) T0 ?_
          case ay50 => (intro V hSw; have c20 := (hSw.cell (p := ⟨y2, 0, none⟩) hl2).trans m20; have c21 := (hSw.cell (p := ⟨y2, 1, none⟩) hl2).trans m21; have c22 := (hSw.cell (p := ⟨y2, 2, none⟩) hl2).trans m22; have c23 := (hSw.cell (p := ⟨y2, 3, none⟩) hl2).trans m23; go_simp; try with_reducible rfl)
          try simp only [pu0, puN, pu1, pu2, pu3]
          refine wpAnyH_take (i := 8) (oi := ({ dst := some 126, op := Op.load 64 (Operand.tmp 12), type := 64, pos := "law.go:165", after := #[], guard := none } : Oper)) (v := ?av51) rfl (by kernel_rfl) (by kernel_rfl) (by kernel_rfl) (fun _ _ _ h => h) (Or.inl ⟨by rfl, ?ay51⟩) T0 ?_
          case ay51 => (intro V hSw; have c40 := (hSw.cell (p := ⟨y4, 0, none⟩) hl4).trans m40; have c41 := (hSw.cell (p := ⟨y4, 1, none⟩) hl4).trans m41; have c42 := (hSw.cell (p := ⟨y4, 2, none⟩) hl4).trans m42; have c43 := (hSw.cell (p := ⟨y4, 3, none⟩) hl4).trans m43; go_simp; try with_reducible rfl)
          try simp only [pu0, puN, pu1, pu2, pu3]
          refine wpAnyH_ready (rs := [3]) (by kernel_rfl) (by simp) ?_
          refine (AllReadyH.cons (o := _) rfl (fun K hK => ?_) AllReadyH.nil)
          go_simp
          refine (Join_any (HT.out.below ((X.out.trans (T0.mono X.out.size)).mono HT.out.hB)) SZ3.out SZ4.out).mono ?_
          rintro e P52 ⟨k5, d5, n5, s5, rfl, hE5, hs5, hb52⟩
          have T52 := T0.trans (hb52.mono T0.size)
          try go_wp2_with fail
          refine hK.out _ _ T52 (fun hS52 => ?_)
          clear hK K
          try simp only [pu0, puN, pu1, pu2, pu3]
          refine wpAnyH_ready (rs := [9]) (by kernel_rfl) (by simp) ?_
          refine (AllReadyH.cons (o := _) rfl (fun K hK => ?_) AllReadyH.nil)
          go_simp
          refine (Join_any (HT.out.below ((X.out.trans (T52.mono X.out.size)).mono HT.out.hB)) SZ2.out SZ4.out).mono ?_
          rintro e P53 ⟨k6, d6, n6, s6, rfl, hE6, hs6, hb53⟩
          have T53 := T52.trans (hb53.mono T52.size)
          try go_wp2_with fail
          refine hK.out _ _ T53 (fun hS53 => ?_)
          clear hK K
          try simp only [pu0, puN, pu1, pu2, pu3]
          refine wpAnyH_ready (rs := [10]) (by kernel_rfl) (by simp) ?_
          refine (AllReadyH.cons (o := _) rfl (fun K hK => ?_) AllReadyH.nil)
          go_simp
          have OK6 : OkK cs7 VT (⟨k6, (d6, L s6), n6⟩ : KN) := hE6 ▸ joinK_ok good7 hV7 OK2.out OK4.out
          have QE : joinK cs7 VT (⟨k1, (d1, L s1), n1⟩ : KN) (⟨k6, (d6, L s6), n6⟩ : KN) = (⟨k5, (d5, L s5), n5⟩ : KN) := by rw [hE5, hE6, E3.out]; exact (joinK_assoc good7 hV7 OK1.out OK2.out OK4.out).symm
          refine ((Join_any (HT.out.below ((X.out.trans (T53.mono X.out.size)).mono HT.out.hB)) SZ1.out hs6).mono (fun e w' h => KAns.lit h k5 d5 n5 s5 QE)).mono ?_
          rintro e P54 ⟨rfl, hb54⟩
          have T54 := T53.trans (hb54.mono T53.size)
          try go_wp2_with fail
          refine hK.out _ _ T54 (fun hS54 => ?_)
          clear hK K
          try simp only [pu0, puN, pu1, pu2, pu3]
          refine wpAnyH_take (i := 11) (oi := ({ dst := some 129, op := Op.binOp BinOp.neq 64 (Operand.tmp 121) (Operand.tmp 128) 64, type := 4, pos := "law.go:165", after := #[{ on := 3, ground := Ground.data }, { on := 10, ground := Ground.data }], guard := none } : Oper)) (v := ?av55) rfl (by kernel_rfl) (by kernel_rfl) (by kernel_rfl) (fun _ _ _ h => h) (Or.inl ⟨by rfl, ?ay55⟩) T54 ?_
          case ay55 => (intro V hSw; have qn := neq64_same k5 d5 n5 s5 V; go_simp; try with_reducible rfl)
          try simp only [pu0, puN, pu1, pu2, pu3]
          refine wpAnyH_take (i := 12) (oi := ({ dst := some 130, op := Op.move (Operand.tmp 129), type := 4, pos := "law.go:165", after := #[{ on := 11, ground := Ground.data }, { on := 10, ground := Ground.chain }], guard := none } : Oper)) (v := ?av56) rfl (by kernel_rfl) (by kernel_rfl) (by kernel_rfl) (fun _ _ _ h => h) (Or.inl ⟨by rfl, ?ay56⟩) T54 ?_
          case ay56 => (intro V hSw; go_simp; try with_reducible rfl)
          try simp only [pu0, puN, pu1, pu2, pu3]
          refine wpAnyH_take (i := 13) (oi := ({ dst := some 131, op := Op.move (Operand.tmp 4), type := 32, pos := "law.go:165", after := #[{ on := 12, ground := Ground.guard }], guard := some (12, false) } : Oper)) (v := ?av57) rfl (by kernel_rfl) (by kernel_rfl) (by kernel_rfl) (fun _ _ _ h => h) (Or.inl ⟨by rfl, ?ay57⟩) T54 ?_
          case ay57 => (intro V hSw; go_simp; try with_reducible rfl)
          try simp only [pu0, puN, pu1, pu2, pu3]
          refine wpAnyH_take (i := 14) (oi := ({ dst := some 132, op := Op.load 64 (Operand.tmp 7), type := 64, pos := "law.go:165", after := #[{ on := 12, ground := Ground.guard }], guard := some (12, false) } : Oper)) (v := ?av58) rfl (by kernel_rfl) (by kernel_rfl) (by kernel_rfl) (fun _ _ _ h => h) (Or.inl ⟨by rfl, ?ay58⟩) T54 ?_
          case ay58 => (intro V hSw; have c10 := (hSw.cell (p := ⟨y1, 0, none⟩) hl1).trans m10; have c11 := (hSw.cell (p := ⟨y1, 1, none⟩) hl1).trans m11; have c12 := (hSw.cell (p := ⟨y1, 2, none⟩) hl1).trans m12; have c13 := (hSw.cell (p := ⟨y1, 3, none⟩) hl1).trans m13; go_simp; try with_reducible rfl)
          try simp only [pu0, puN, pu1, pu2, pu3]
          refine wpAnyH_take (i := 15) (oi := ({ dst := some 133, op := Op.load 64 (Operand.tmp 9), type := 64, pos := "law.go:165", after := #[{ on := 12, ground := Ground.guard }], guard := some (12, false) } : Oper)) (v := ?av59) rfl (by kernel_rfl) (by kernel_rfl) (by kernel_rfl) (fun _ _ _ h => h) (Or.inl ⟨by rfl, ?ay59⟩) T54 ?_
          case ay59 => (intro V hSw; have c20 := (hSw.cell (p := ⟨y2, 0, none⟩) hl2).trans m20; have c21 := (hSw.cell (p := ⟨y2, 1, none⟩) hl2).trans m21; have c22 := (hSw.cell (p := ⟨y2, 2, none⟩) hl2).trans m22; have c23 := (hSw.cell (p := ⟨y2, 3, none⟩) hl2).trans m23; go_simp; try with_reducible rfl)
          try simp only [pu0, puN, pu1, pu2, pu3]
          refine wpAnyH_ready (rs := [16]) (by kernel_rfl) (by simp) ?_
          refine (AllReadyH.cons (o := _) rfl (fun K hK => ?_) AllReadyH.nil)
          go_simp
          refine ((Below_any (HT.out.below ((X.out.trans (T54.mono X.out.size)).mono HT.out.hB)) SZ1.out SZ2.out).mono (fun e w' h => BAns.yes h HAB.out)).mono ?_
          rintro e P60 ⟨rfl, hb60⟩
          have T60 := T54.trans (hb60.mono T54.size)
          try go_wp2_with fail
          refine hK.out _ _ T60 (fun hS60 => ?_)
          clear hK K
          try simp only [pu0, puN, pu1, pu2, pu3]
          refine wpAnyH_take (i := 17) (oi := ({ dst := some 135, op := Op.move (Operand.tmp 134), type := 4, pos := "law.go:165", after := #[{ on := 16, ground := Ground.data }, { on := 16, ground := Ground.chain }, { on := 12, ground := Ground.guard }], guard := some (12, false) } : Oper)) (v := ?av61) rfl (by kernel_rfl) (by kernel_rfl) (by kernel_rfl) (fun _ _ _ h => h) (Or.inl ⟨by rfl, ?ay61⟩) T60 ?_
          case ay61 => (intro V hSw; go_simp; try with_reducible rfl)
          try simp only [pu0, puN, pu1, pu2, pu3]
          refine wpAnyH_take (i := 18) (oi := ({ dst := some 136, op := Op.move (Operand.tmp 4), type := 32, pos := "law.go:165", after := #[{ on := 17, ground := Ground.guard }], guard := some (17, true) } : Oper)) (v := ?av62) rfl (by kernel_rfl) (by kernel_rfl) (by kernel_rfl) (fun _ _ _ h => h) (Or.inl ⟨by rfl, ?ay62⟩) T60 ?_
          case ay62 => (intro V hSw; go_simp; try with_reducible rfl)
          try simp only [pu0, puN, pu1, pu2, pu3]
          refine wpAnyH_take (i := 19) (oi := ({ dst := some 137, op := Op.load 64 (Operand.tmp 9), type := 64, pos := "law.go:165", after := #[{ on := 17, ground := Ground.guard }], guard := some (17, true) } : Oper)) (v := ?av63) rfl (by kernel_rfl) (by kernel_rfl) (by kernel_rfl) (fun _ _ _ h => h) (Or.inl ⟨by rfl, ?ay63⟩) T60 ?_
          case ay63 => (intro V hSw; have c20 := (hSw.cell (p := ⟨y2, 0, none⟩) hl2).trans m20; have c21 := (hSw.cell (p := ⟨y2, 1, none⟩) hl2).trans m21; have c22 := (hSw.cell (p := ⟨y2, 2, none⟩) hl2).trans m22; have c23 := (hSw.cell (p := ⟨y2, 3, none⟩) hl2).trans m23; go_simp; try with_reducible rfl)
          try simp only [pu0, puN, pu1, pu2, pu3]
          refine wpAnyH_take (i := 20) (oi := ({ dst := some 138, op := Op.load 64 (Operand.tmp 12), type := 64, pos := "law.go:165", after := #[{ on := 17, ground := Ground.guard }], guard := some (17, true) } : Oper)) (v := ?av64) rfl (by kernel_rfl) (by kernel_rfl) (by kernel_rfl) (fun _ _ _ h => h) (Or.inl ⟨by rfl, ?ay64⟩) T60 ?_
          case ay64 => (intro V hSw; have c40 := (hSw.cell (p := ⟨y4, 0, none⟩) hl4).trans m40; have c41 := (hSw.cell (p := ⟨y4, 1, none⟩) hl4).trans m41; have c42 := (hSw.cell (p := ⟨y4, 2, none⟩) hl4).trans m42; have c43 := (hSw.cell (p := ⟨y4, 3, none⟩) hl4).trans m43; go_simp; try with_reducible rfl)
          try simp only [pu0, puN, pu1, pu2, pu3]
          refine wpAnyH_ready (rs := [21]) (by kernel_rfl) (by simp) ?_
          refine (AllReadyH.cons (o := _) rfl (fun K hK => ?_) AllReadyH.nil)
          go_simp
          refine ((Below_any (HT.out.below ((X.out.trans (T60.mono X.out.size)).mono HT.out.hB)) SZ2.out SZ4.out).mono (fun e w' h => BAns.yes h HBC.out)).mono ?_
          rintro e P65 ⟨rfl, hb65⟩
          have T65 := T60.trans (hb65.mono T60.size)
          try go_wp2_with fail
          refine hK.out _ _ T65 (fun hS65 => ?_)
          clear hK K
          try simp only [pu0, puN, pu1, pu2, pu3]
          refine wpAnyH_take (i := 22) (oi := ({ dst := some 140, op := Op.pick (Operand.tmp 135) (Operand.tmp 139) (Operand.const (Value.bool false)), type := 4, pos := "law.go:165", after := #[{ on := 17, ground := Ground.data }, { on := 21, ground := Ground.data }, { on := 12, ground := Ground.guard }], guard := some (12, false) } : Oper)) (v := ?av66) rfl (by kernel_rfl) (by kernel_rfl) (by kernel_rfl) (fun _ _ _ h => h) (Or.inl ⟨by rfl, ?ay66⟩) T65 ?_
          case ay66 => (intro V hSw; go_simp; try with_reducible rfl)
          try simp only [pu0, puN, pu1, pu2, pu3]
          refine wpAnyH_take (i := 23) (oi := ({ dst := some 141, op := Op.move (Operand.tmp 140), type := 4, pos := "law.go:165", after := #[{ on := 22, ground := Ground.data }, { on := 21, ground := Ground.chain }, { on := 12, ground := Ground.guard }], guard := some (12, false) } : Oper)) (v := ?av67) rfl (by kernel_rfl) (by kernel_rfl) (by kernel_rfl) (fun _ _ _ h => h) (Or.inl ⟨by rfl, ?ay67⟩) T65 ?_
          case ay67 => (intro V hSw; go_simp; try with_reducible rfl)
          try simp only [pu0, puN, pu1, pu2, pu3]
          refine wpAnyH_take (i := 24) (oi := ({ dst := some 142, op := Op.move (Operand.tmp 4), type := 32, pos := "law.go:165", after := #[{ on := 23, ground := Ground.guard }], guard := some (23, true) } : Oper)) (v := ?av68) rfl (by kernel_rfl) (by kernel_rfl) (by kernel_rfl) (fun _ _ _ h => h) (Or.inl ⟨by rfl, ?ay68⟩) T65 ?_
          case ay68 => (intro V hSw; go_simp; try with_reducible rfl)
          try simp only [pu0, puN, pu1, pu2, pu3]
          refine wpAnyH_take (i := 25) (oi := ({ dst := some 143, op := Op.load 64 (Operand.tmp 7), type := 64, pos := "law.go:165", after := #[{ on := 23, ground := Ground.guard }], guard := some (23, true) } : Oper)) (v := ?av69) rfl (by kernel_rfl) (by kernel_rfl) (by kernel_rfl) (fun _ _ _ h => h) (Or.inl ⟨by rfl, ?ay69⟩) T65 ?_
          case ay69 => (intro V hSw; have c10 := (hSw.cell (p := ⟨y1, 0, none⟩) hl1).trans m10; have c11 := (hSw.cell (p := ⟨y1, 1, none⟩) hl1).trans m11; have c12 := (hSw.cell (p := ⟨y1, 2, none⟩) hl1).trans m12; have c13 := (hSw.cell (p := ⟨y1, 3, none⟩) hl1).trans m13; go_simp; try with_reducible rfl)
          try simp only [pu0, puN, pu1, pu2, pu3]
          refine wpAnyH_take (i := 26) (oi := ({ dst := some 144, op := Op.load 64 (Operand.tmp 12), type := 64, pos := "law.go:165", after := #[{ on := 23, ground := Ground.guard }], guard := some (23, true) } : Oper)) (v := ?av70) rfl (by kernel_rfl) (by kernel_rfl) (by kernel_rfl) (fun _ _ _ h => h) (Or.inl ⟨by rfl, ?ay70⟩) T65 ?_
          case ay70 => (intro V hSw; have c40 := (hSw.cell (p := ⟨y4, 0, none⟩) hl4).trans m40; have c41 := (hSw.cell (p := ⟨y4, 1, none⟩) hl4).trans m41; have c42 := (hSw.cell (p := ⟨y4, 2, none⟩) hl4).trans m42; have c43 := (hSw.cell (p := ⟨y4, 3, none⟩) hl4).trans m43; go_simp; try with_reducible rfl)
          try simp only [pu0, puN, pu1, pu2, pu3]
          refine wpAnyH_ready (rs := [27]) (by kernel_rfl) (by simp) ?_
          refine (AllReadyH.cons (o := _) rfl (fun K hK => ?_) AllReadyH.nil)
          go_simp
          refine ((Below_any (HT.out.below ((X.out.trans (T65.mono X.out.size)).mono HT.out.hB)) SZ1.out SZ4.out).mono (fun e w' h => BAns.yes h (belowK_trans good7 hV7 OK1.out OK2.out OK4.out HAB.out HBC.out))).mono ?_
          rintro e P71 ⟨rfl, hb71⟩
          have T71 := T65.trans (hb71.mono T65.size)
          try go_wp2_with fail
          refine hK.out _ _ T71 (fun hS71 => ?_)
          clear hK K
          try simp only [pu0, puN, pu1, pu2, pu3]
          refine wpAnyH_take (i := 28) (oi := ({ dst := some 146, op := Op.unOp UnOp.not 4 (Operand.tmp 145), type := 4, pos := "law.go:165", after := #[{ on := 27, ground := Ground.data }, { on := 23, ground := Ground.guard }], guard := some (23, true) } : Oper)) (v := ?av72) rfl (by kernel_rfl) (by kernel_rfl) (by kernel_rfl) (fun _ _ _ h => h) (Or.inl ⟨by rfl, ?ay72⟩) T71 ?_
          case ay72 => (intro V hSw; go_simp; try with_reducible rfl)
          try simp only [pu0, puN, pu1, pu2, pu3]
          refine wpAnyH_take (i := 29) (oi := ({ dst := some 147, op := Op.pick (Operand.tmp 141) (Operand.tmp 146) (Operand.const (Value.bool false)), type := 4, pos := "law.go:165", after := #[{ on := 23, ground := Ground.data }, { on := 28, ground := Ground.data }, { on := 12, ground := Ground.guard }], guard := some (12, false) } : Oper)) (v := ?av73) rfl (by kernel_rfl) (by kernel_rfl) (by kernel_rfl) (fun _ _ _ h => h) (Or.inl ⟨by rfl, ?ay73⟩) T71 ?_
          case ay73 => (intro V hSw; go_simp; try with_reducible rfl)
          try simp only [pu0, puN, pu1, pu2, pu3]
          refine wpAnyH_take (i := 30) (oi := ({ dst := some 148, op := Op.pick (Operand.tmp 130) (Operand.const (Value.bool true)) (Operand.tmp 147), type := 4, pos := "law.go:165", after := #[{ on := 12, ground := Ground.data }, { on := 29, ground := Ground.data }], guard := none } : Oper)) (v := ?av74) rfl (by kernel_rfl) (by kernel_rfl) (by kernel_rfl) (fun _ _ _ h => h) (Or.inl ⟨by rfl, ?ay74⟩) T71 ?_
          case ay74 => (intro V hSw; go_simp; try with_reducible rfl)
          try simp only [pu0, puN, pu1, pu2, pu3]
          refine wpAnyH_done (by kernel_rfl) ?_ _
          try go_wp2
          go_meet
          case rel => exact ⟨rfl, T71⟩
         ·have HBC := Lib.hid hbc
          clear hbc
          have T0 := (Below.refl V9.heap.size V9).drew
          refine wp_region_held_drew (S := fun W => Below V9.heap.size V9 W) (by kernel_rfl) T0 (fun hS0 => ?_)
          refine wpAnyH_take (i := 0) (oi := ({ dst := some 118, op := Op.move (Operand.tmp 4), type := 32, pos := "law.go:165", after := #[], guard := none } : Oper)) (v := ?av75) rfl (by kernel_rfl) (by kernel_rfl) (by kernel_rfl) (fun _ _ _ h => h) (Or.inl ⟨by rfl, ?ay75⟩) T0 ?_
          case ay75 => (intro V hSw; go_simp; try with_reducible rfl)
          try simp only [pu0, puN, pu1, pu2, pu3]
          refine wpAnyH_take (i := 1) (oi := ({ dst := some 119, op := Op.load 64 (Operand.tmp 10), type := 64, pos := "law.go:165", after := #[], guard := none } : Oper)) (v := ?av76) rfl (by kernel_rfl) (by kernel_rfl) (by kernel_rfl) (fun _ _ _ h => h) (Or.inl ⟨by rfl, ?ay76⟩) T0 ?_
          case ay76 => (intro V hSw; have c30 := (hSw.cell (p := ⟨y3, 0, none⟩) hl3).trans m30; have c31 := (hSw.cell (p := ⟨y3, 1, none⟩) hl3).trans m31; have c32 := (hSw.cell (p := ⟨y3, 2, none⟩) hl3).trans m32; have c33 := (hSw.cell (p := ⟨y3, 3, none⟩) hl3).trans m33; go_simp; try with_reducible rfl)
          try simp only [pu0, puN, pu1, pu2, pu3]
          refine wpAnyH_take (i := 2) (oi := ({ dst := some 120, op := Op.load 64 (Operand.tmp 12), type := 64, pos := "law.go:165", after := #[], guard := none } : Oper)) (v := ?av77) rfl (by kernel_rfl) (by kernel_rfl) (by kernel_rfl) (fun _ _ _ h => h) (Or.inl ⟨by rfl, ?ay77⟩) T0 ?_
          case ay77 => (intro V hSw; have c40 := (hSw.cell (p := ⟨y4, 0, none⟩) hl4).trans m40; have c41 := (hSw.cell (p := ⟨y4, 1, none⟩) hl4).trans m41; have c42 := (hSw.cell (p := ⟨y4, 2, none⟩) hl4).trans m42; have c43 := (hSw.cell (p := ⟨y4, 3, none⟩) hl4).trans m43; go_simp; try with_reducible rfl)
          try simp only [pu0, puN, pu1, pu2, pu3]
          refine wpAnyH_take (i := 4) (oi := ({ dst := some 122, op := Op.move (Operand.tmp 4), type := 32, pos := "law.go:165", after := #[], guard := none } : Oper)) (v := ?av78) rfl (by kernel_rfl) (by kernel_rfl) (by kernel_rfl) (fun _ _ _ h => h) (Or.inl ⟨by rfl, ?ay78⟩) T0 ?_
          case ay78 => (intro V hSw; go_simp; try with_reducible rfl)
          try simp only [pu0, puN, pu1, pu2, pu3]
          refine wpAnyH_take (i := 5) (oi := ({ dst := some 123, op := Op.load 64 (Operand.tmp 7), type := 64, pos := "law.go:165", after := #[], guard := none } : Oper)) (v := ?av79) rfl (by kernel_rfl) (by kernel_rfl) (by kernel_rfl) (fun _ _ _ h => h) (Or.inl ⟨by rfl, ?ay79⟩) T0 ?_
          case ay79 => (intro V hSw; have c10 := (hSw.cell (p := ⟨y1, 0, none⟩) hl1).trans m10; have c11 := (hSw.cell (p := ⟨y1, 1, none⟩) hl1).trans m11; have c12 := (hSw.cell (p := ⟨y1, 2, none⟩) hl1).trans m12; have c13 := (hSw.cell (p := ⟨y1, 3, none⟩) hl1).trans m13; go_simp; try with_reducible rfl)
          try simp only [pu0, puN, pu1, pu2, pu3]
          refine wpAnyH_take (i := 6) (oi := ({ dst := some 124, op := Op.move (Operand.tmp 4), type := 32, pos := "law.go:165", after := #[], guard := none } : Oper)) (v := ?av80) rfl (by kernel_rfl) (by kernel_rfl) (by kernel_rfl) (fun _ _ _ h => h) (Or.inl ⟨by rfl, ?ay80⟩) T0 ?_
          case ay80 => (intro V hSw; go_simp; try with_reducible rfl)
          try simp only [pu0, puN, pu1, pu2, pu3]
          refine wpAnyH_take (i := 7) (oi := ({ dst := some 125, op := Op.load 64 (Operand.tmp 9), type := 64, pos := "law.go:165", after := #[], guard := none } : Oper)) (v := ?av81) rfl (by kernel_rfl) (by kernel_rfl) (by kernel_rfl) (fun _ _ _ h => h) (Or.inl ⟨by rfl, ?ay81⟩) T0 ?_
          case ay81 => (intro V hSw; have c20 := (hSw.cell (p := ⟨y2, 0, none⟩) hl2).trans m20; have c21 := (hSw.cell (p := ⟨y2, 1, none⟩) hl2).trans m21; have c22 := (hSw.cell (p := ⟨y2, 2, none⟩) hl2).trans m22; have c23 := (hSw.cell (p := ⟨y2, 3, none⟩) hl2).trans m23; go_simp; try with_reducible rfl)
          try simp only [pu0, puN, pu1, pu2, pu3]
          refine wpAnyH_take (i := 8) (oi := ({ dst := some 126, op := Op.load 64 (Operand.tmp 12), type := 64, pos := "law.go:165", after := #[], guard := none } : Oper)) (v := ?av82) rfl (by kernel_rfl) (by kernel_rfl) (by kernel_rfl) (fun _ _ _ h => h) (Or.inl ⟨by rfl, ?ay82⟩) T0 ?_
          case ay82 => (intro V hSw; have c40 := (hSw.cell (p := ⟨y4, 0, none⟩) hl4).trans m40; have c41 := (hSw.cell (p := ⟨y4, 1, none⟩) hl4).trans m41; have c42 := (hSw.cell (p := ⟨y4, 2, none⟩) hl4).trans m42; have c43 := (hSw.cell (p := ⟨y4, 3, none⟩) hl4).trans m43; go_simp; try with_reducible rfl)
          try simp only [pu0, puN, pu1, pu2, pu3]
          refine wpAnyH_ready (rs := [3]) (by kernel_rfl) (by simp) ?_
          refine (AllReadyH.cons (o := _) rfl (fun K hK => ?_) AllReadyH.nil)
          go_simp
          refine (Join_any (HT.out.below ((X.out.trans (T0.mono X.out.size)).mono HT.out.hB)) SZ3.out SZ4.out).mono ?_
          rintro e P83 ⟨k5, d5, n5, s5, rfl, hE5, hs5, hb83⟩
          have T83 := T0.trans (hb83.mono T0.size)
          try go_wp2_with fail
          refine hK.out _ _ T83 (fun hS83 => ?_)
          clear hK K
          try simp only [pu0, puN, pu1, pu2, pu3]
          refine wpAnyH_ready (rs := [9]) (by kernel_rfl) (by simp) ?_
          refine (AllReadyH.cons (o := _) rfl (fun K hK => ?_) AllReadyH.nil)
          go_simp
          refine (Join_any (HT.out.below ((X.out.trans (T83.mono X.out.size)).mono HT.out.hB)) SZ2.out SZ4.out).mono ?_
          rintro e P84 ⟨k6, d6, n6, s6, rfl, hE6, hs6, hb84⟩
          have T84 := T83.trans (hb84.mono T83.size)
          try go_wp2_with fail
          refine hK.out _ _ T84 (fun hS84 => ?_)
          clear hK K
          try simp only [pu0, puN, pu1, pu2, pu3]
          refine wpAnyH_ready (rs := [10]) (by kernel_rfl) (by simp) ?_
          refine (AllReadyH.cons (o := _) rfl (fun K hK => ?_) AllReadyH.nil)
          go_simp
          have OK6 : OkK cs7 VT (⟨k6, (d6, L s6), n6⟩ : KN) := hE6 ▸ joinK_ok good7 hV7 OK2.out OK4.out
          have QE : joinK cs7 VT (⟨k1, (d1, L s1), n1⟩ : KN) (⟨k6, (d6, L s6), n6⟩ : KN) = (⟨k5, (d5, L s5), n5⟩ : KN) := by rw [hE5, hE6, E3.out]; exact (joinK_assoc good7 hV7 OK1.out OK2.out OK4.out).symm
          refine ((Join_any (HT.out.below ((X.out.trans (T84.mono X.out.size)).mono HT.out.hB)) SZ1.out hs6).mono (fun e w' h => KAns.lit h k5 d5 n5 s5 QE)).mono ?_
          rintro e P85 ⟨rfl, hb85⟩
          have T85 := T84.trans (hb85.mono T84.size)
          try go_wp2_with fail
          refine hK.out _ _ T85 (fun hS85 => ?_)
          clear hK K
          try simp only [pu0, puN, pu1, pu2, pu3]
          refine wpAnyH_take (i := 11) (oi := ({ dst := some 129, op := Op.binOp BinOp.neq 64 (Operand.tmp 121) (Operand.tmp 128) 64, type := 4, pos := "law.go:165", after := #[{ on := 3, ground := Ground.data }, { on := 10, ground := Ground.data }], guard := none } : Oper)) (v := ?av86) rfl (by kernel_rfl) (by kernel_rfl) (by kernel_rfl) (fun _ _ _ h => h) (Or.inl ⟨by rfl, ?ay86⟩) T85 ?_
          case ay86 => (intro V hSw; have qn := neq64_same k5 d5 n5 s5 V; go_simp; try with_reducible rfl)
          try simp only [pu0, puN, pu1, pu2, pu3]
          refine wpAnyH_take (i := 12) (oi := ({ dst := some 130, op := Op.move (Operand.tmp 129), type := 4, pos := "law.go:165", after := #[{ on := 11, ground := Ground.data }, { on := 10, ground := Ground.chain }], guard := none } : Oper)) (v := ?av87) rfl (by kernel_rfl) (by kernel_rfl) (by kernel_rfl) (fun _ _ _ h => h) (Or.inl ⟨by rfl, ?ay87⟩) T85 ?_
          case ay87 => (intro V hSw; go_simp; try with_reducible rfl)
          try simp only [pu0, puN, pu1, pu2, pu3]
          refine wpAnyH_take (i := 13) (oi := ({ dst := some 131, op := Op.move (Operand.tmp 4), type := 32, pos := "law.go:165", after := #[{ on := 12, ground := Ground.guard }], guard := some (12, false) } : Oper)) (v := ?av88) rfl (by kernel_rfl) (by kernel_rfl) (by kernel_rfl) (fun _ _ _ h => h) (Or.inl ⟨by rfl, ?ay88⟩) T85 ?_
          case ay88 => (intro V hSw; go_simp; try with_reducible rfl)
          try simp only [pu0, puN, pu1, pu2, pu3]
          refine wpAnyH_take (i := 14) (oi := ({ dst := some 132, op := Op.load 64 (Operand.tmp 7), type := 64, pos := "law.go:165", after := #[{ on := 12, ground := Ground.guard }], guard := some (12, false) } : Oper)) (v := ?av89) rfl (by kernel_rfl) (by kernel_rfl) (by kernel_rfl) (fun _ _ _ h => h) (Or.inl ⟨by rfl, ?ay89⟩) T85 ?_
          case ay89 => (intro V hSw; have c10 := (hSw.cell (p := ⟨y1, 0, none⟩) hl1).trans m10; have c11 := (hSw.cell (p := ⟨y1, 1, none⟩) hl1).trans m11; have c12 := (hSw.cell (p := ⟨y1, 2, none⟩) hl1).trans m12; have c13 := (hSw.cell (p := ⟨y1, 3, none⟩) hl1).trans m13; go_simp; try with_reducible rfl)
          try simp only [pu0, puN, pu1, pu2, pu3]
          refine wpAnyH_take (i := 15) (oi := ({ dst := some 133, op := Op.load 64 (Operand.tmp 9), type := 64, pos := "law.go:165", after := #[{ on := 12, ground := Ground.guard }], guard := some (12, false) } : Oper)) (v := ?av90) rfl (by kernel_rfl) (by kernel_rfl) (by kernel_rfl) (fun _ _ _ h => h) (Or.inl ⟨by rfl, ?ay90⟩) T85 ?_
          case ay90 => (intro V hSw; have c20 := (hSw.cell (p := ⟨y2, 0, none⟩) hl2).trans m20; have c21 := (hSw.cell (p := ⟨y2, 1, none⟩) hl2).trans m21; have c22 := (hSw.cell (p := ⟨y2, 2, none⟩) hl2).trans m22; have c23 := (hSw.cell (p := ⟨y2, 3, none⟩) hl2).trans m23; go_simp; try with_reducible rfl)
          try simp only [pu0, puN, pu1, pu2, pu3]
          refine wpAnyH_ready (rs := [16]) (by kernel_rfl) (by simp) ?_
          refine (AllReadyH.cons (o := _) rfl (fun K hK => ?_) AllReadyH.nil)
          go_simp
          refine ((Below_any (HT.out.below ((X.out.trans (T85.mono X.out.size)).mono HT.out.hB)) SZ1.out SZ2.out).mono (fun e w' h => BAns.yes h HAB.out)).mono ?_
          rintro e P91 ⟨rfl, hb91⟩
          have T91 := T85.trans (hb91.mono T85.size)
          try go_wp2_with fail
          refine hK.out _ _ T91 (fun hS91 => ?_)
          clear hK K
          try simp only [pu0, puN, pu1, pu2, pu3]
          refine wpAnyH_take (i := 17) (oi := ({ dst := some 135, op := Op.move (Operand.tmp 134), type := 4, pos := "law.go:165", after := #[{ on := 16, ground := Ground.data }, { on := 16, ground := Ground.chain }, { on := 12, ground := Ground.guard }], guard := some (12, false) } : Oper)) (v := ?av92) rfl (by kernel_rfl) (by kernel_rfl) (by kernel_rfl) (fun _ _ _ h => h) (Or.inl ⟨by rfl, ?ay92⟩) T91 ?_
          case ay92 => (intro V hSw; go_simp; try with_reducible rfl)
          try simp only [pu0, puN, pu1, pu2, pu3]
          refine wpAnyH_take (i := 18) (oi := ({ dst := some 136, op := Op.move (Operand.tmp 4), type := 32, pos := "law.go:165", after := #[{ on := 17, ground := Ground.guard }], guard := some (17, true) } : Oper)) (v := ?av93) rfl (by kernel_rfl) (by kernel_rfl) (by kernel_rfl) (fun _ _ _ h => h) (Or.inl ⟨by rfl, ?ay93⟩) T91 ?_
          case ay93 => (intro V hSw; go_simp; try with_reducible rfl)
          try simp only [pu0, puN, pu1, pu2, pu3]
          refine wpAnyH_take (i := 19) (oi := ({ dst := some 137, op := Op.load 64 (Operand.tmp 9), type := 64, pos := "law.go:165", after := #[{ on := 17, ground := Ground.guard }], guard := some (17, true) } : Oper)) (v := ?av94) rfl (by kernel_rfl) (by kernel_rfl) (by kernel_rfl) (fun _ _ _ h => h) (Or.inl ⟨by rfl, ?ay94⟩) T91 ?_
          case ay94 => (intro V hSw; have c20 := (hSw.cell (p := ⟨y2, 0, none⟩) hl2).trans m20; have c21 := (hSw.cell (p := ⟨y2, 1, none⟩) hl2).trans m21; have c22 := (hSw.cell (p := ⟨y2, 2, none⟩) hl2).trans m22; have c23 := (hSw.cell (p := ⟨y2, 3, none⟩) hl2).trans m23; go_simp; try with_reducible rfl)
          try simp only [pu0, puN, pu1, pu2, pu3]
          refine wpAnyH_take (i := 20) (oi := ({ dst := some 138, op := Op.load 64 (Operand.tmp 12), type := 64, pos := "law.go:165", after := #[{ on := 17, ground := Ground.guard }], guard := some (17, true) } : Oper)) (v := ?av95) rfl (by kernel_rfl) (by kernel_rfl) (by kernel_rfl) (fun _ _ _ h => h) (Or.inl ⟨by rfl, ?ay95⟩) T91 ?_
          case ay95 => (intro V hSw; have c40 := (hSw.cell (p := ⟨y4, 0, none⟩) hl4).trans m40; have c41 := (hSw.cell (p := ⟨y4, 1, none⟩) hl4).trans m41; have c42 := (hSw.cell (p := ⟨y4, 2, none⟩) hl4).trans m42; have c43 := (hSw.cell (p := ⟨y4, 3, none⟩) hl4).trans m43; go_simp; try with_reducible rfl)
          try simp only [pu0, puN, pu1, pu2, pu3]
          refine wpAnyH_ready (rs := [21]) (by kernel_rfl) (by simp) ?_
          refine (AllReadyH.cons (o := _) rfl (fun K hK => ?_) AllReadyH.nil)
          go_simp
          refine ((Below_any (HT.out.below ((X.out.trans (T91.mono X.out.size)).mono HT.out.hB)) SZ2.out SZ4.out).mono (fun e w' h => BAns.no h HBC.out)).mono ?_
          rintro e P96 ⟨rfl, hb96⟩
          have T96 := T91.trans (hb96.mono T91.size)
          try go_wp2_with fail
          refine hK.out _ _ T96 (fun hS96 => ?_)
          clear hK K
          try simp only [pu0, puN, pu1, pu2, pu3]
          refine wpAnyH_take (i := 22) (oi := ({ dst := some 140, op := Op.pick (Operand.tmp 135) (Operand.tmp 139) (Operand.const (Value.bool false)), type := 4, pos := "law.go:165", after := #[{ on := 17, ground := Ground.data }, { on := 21, ground := Ground.data }, { on := 12, ground := Ground.guard }], guard := some (12, false) } : Oper)) (v := ?av97) rfl (by kernel_rfl) (by kernel_rfl) (by kernel_rfl) (fun _ _ _ h => h) (Or.inl ⟨by rfl, ?ay97⟩) T96 ?_
          case ay97 => (intro V hSw; go_simp; try with_reducible rfl)
          try simp only [pu0, puN, pu1, pu2, pu3]
          refine wpAnyH_take (i := 23) (oi := ({ dst := some 141, op := Op.move (Operand.tmp 140), type := 4, pos := "law.go:165", after := #[{ on := 22, ground := Ground.data }, { on := 21, ground := Ground.chain }, { on := 12, ground := Ground.guard }], guard := some (12, false) } : Oper)) (v := ?av98) rfl (by kernel_rfl) (by kernel_rfl) (by kernel_rfl) (fun _ _ _ h => h) (Or.inl ⟨by rfl, ?ay98⟩) T96 ?_
          case ay98 => (intro V hSw; go_simp; try with_reducible rfl)
          try simp only [pu0, puN, pu1, pu2, pu3]
          refine wpAnyH_take (i := 24) (oi := ({ dst := some 142, op := Op.move (Operand.tmp 4), type := 32, pos := "law.go:165", after := #[{ on := 23, ground := Ground.guard }], guard := some (23, true) } : Oper)) (v := undef) rfl (by kernel_rfl) (by kernel_rfl) (by kernel_rfl) (fun _ _ _ h => h) (Or.inr ⟨by rfl, rfl⟩) T96 ?_
          try simp only [pu0, puN, pu1, pu2, pu3]
          refine wpAnyH_take (i := 25) (oi := ({ dst := some 143, op := Op.load 64 (Operand.tmp 7), type := 64, pos := "law.go:165", after := #[{ on := 23, ground := Ground.guard }], guard := some (23, true) } : Oper)) (v := undef) rfl (by kernel_rfl) (by kernel_rfl) (by kernel_rfl) (fun _ _ _ h => h) (Or.inr ⟨by rfl, rfl⟩) T96 ?_
          try simp only [pu0, puN, pu1, pu2, pu3]
          refine wpAnyH_take (i := 26) (oi := ({ dst := some 144, op := Op.load 64 (Operand.tmp 12), type := 64, pos := "law.go:165", after := #[{ on := 23, ground := Ground.guard }], guard := some (23, true) } : Oper)) (v := undef) rfl (by kernel_rfl) (by kernel_rfl) (by kernel_rfl) (fun _ _ _ h => h) (Or.inr ⟨by rfl, rfl⟩) T96 ?_
          try simp only [pu0, puN, pu1, pu2, pu3]
          refine wpAnyH_take (i := 27) (oi := ({ dst := some 145, op := Op.call { callee := Callee.value (Operand.func 43), args := #[Operand.tmp 142, Operand.tmp 143, Operand.tmp 144], argTypes := #[32, 64, 64] }, type := 4, pos := "law.go:165", after := #[{ on := 24, ground := Ground.data }, { on := 25, ground := Ground.data }, { on := 26, ground := Ground.data }, { on := 23, ground := Ground.chain }, { on := 23, ground := Ground.guard }], guard := some (23, true) } : Oper)) (v := undef) rfl (by kernel_rfl) (by kernel_rfl) (by kernel_rfl) (fun _ _ _ h => h) (Or.inr ⟨by rfl, rfl⟩) T96 ?_
          try simp only [pu0, puN, pu1, pu2, pu3]
          refine wpAnyH_take (i := 28) (oi := ({ dst := some 146, op := Op.unOp UnOp.not 4 (Operand.tmp 145), type := 4, pos := "law.go:165", after := #[{ on := 27, ground := Ground.data }, { on := 23, ground := Ground.guard }], guard := some (23, true) } : Oper)) (v := undef) rfl (by kernel_rfl) (by kernel_rfl) (by kernel_rfl) (fun _ _ _ h => h) (Or.inr ⟨by rfl, rfl⟩) T96 ?_
          try simp only [pu0, puN, pu1, pu2, pu3]
          refine wpAnyH_take (i := 29) (oi := ({ dst := some 147, op := Op.pick (Operand.tmp 141) (Operand.tmp 146) (Operand.const (Value.bool false)), type := 4, pos := "law.go:165", after := #[{ on := 23, ground := Ground.data }, { on := 28, ground := Ground.data }, { on := 12, ground := Ground.guard }], guard := some (12, false) } : Oper)) (v := ?av99) rfl (by kernel_rfl) (by kernel_rfl) (by kernel_rfl) (fun _ _ _ h => h) (Or.inl ⟨by rfl, ?ay99⟩) T96 ?_
          case ay99 => (intro V hSw; go_simp; try with_reducible rfl)
          try simp only [pu0, puN, pu1, pu2, pu3]
          refine wpAnyH_take (i := 30) (oi := ({ dst := some 148, op := Op.pick (Operand.tmp 130) (Operand.const (Value.bool true)) (Operand.tmp 147), type := 4, pos := "law.go:165", after := #[{ on := 12, ground := Ground.data }, { on := 29, ground := Ground.data }], guard := none } : Oper)) (v := ?av100) rfl (by kernel_rfl) (by kernel_rfl) (by kernel_rfl) (fun _ _ _ h => h) (Or.inl ⟨by rfl, ?ay100⟩) T96 ?_
          case ay100 => (intro V hSw; go_simp; try with_reducible rfl)
          try simp only [pu0, puN, pu1, pu2, pu3]
          refine wpAnyH_done (by kernel_rfl) ?_ _
          try go_wp2
          go_meet
          case rel => exact ⟨rfl, T96⟩
        ·have HAB := Lib.hid hab
         clear hab
         have T0 := (Below.refl V9.heap.size V9).drew
         refine wp_region_held_drew (S := fun W => Below V9.heap.size V9 W) (by kernel_rfl) T0 (fun hS0 => ?_)
         refine wpAnyH_take (i := 0) (oi := ({ dst := some 118, op := Op.move (Operand.tmp 4), type := 32, pos := "law.go:165", after := #[], guard := none } : Oper)) (v := ?av101) rfl (by kernel_rfl) (by kernel_rfl) (by kernel_rfl) (fun _ _ _ h => h) (Or.inl ⟨by rfl, ?ay101⟩) T0 ?_
         case ay101 => (intro V hSw; go_simp; try with_reducible rfl)
         try simp only [pu0, puN, pu1, pu2, pu3]
         refine wpAnyH_take (i := 1) (oi := ({ dst := some 119, op := Op.load 64 (Operand.tmp 10), type := 64, pos := "law.go:165", after := #[], guard := none } : Oper)) (v := ?av102) rfl (by kernel_rfl) (by kernel_rfl) (by kernel_rfl) (fun _ _ _ h => h) (Or.inl ⟨by rfl, ?ay102⟩) T0 ?_
         case ay102 => (intro V hSw; have c30 := (hSw.cell (p := ⟨y3, 0, none⟩) hl3).trans m30; have c31 := (hSw.cell (p := ⟨y3, 1, none⟩) hl3).trans m31; have c32 := (hSw.cell (p := ⟨y3, 2, none⟩) hl3).trans m32; have c33 := (hSw.cell (p := ⟨y3, 3, none⟩) hl3).trans m33; go_simp; try with_reducible rfl)
         try simp only [pu0, puN, pu1, pu2, pu3]
         refine wpAnyH_take (i := 2) (oi := ({ dst := some 120, op := Op.load 64 (Operand.tmp 12), type := 64, pos := "law.go:165", after := #[], guard := none } : Oper)) (v := ?av103) rfl (by kernel_rfl) (by kernel_rfl) (by kernel_rfl) (fun _ _ _ h => h) (Or.inl ⟨by rfl, ?ay103⟩) T0 ?_
         case ay103 => (intro V hSw; have c40 := (hSw.cell (p := ⟨y4, 0, none⟩) hl4).trans m40; have c41 := (hSw.cell (p := ⟨y4, 1, none⟩) hl4).trans m41; have c42 := (hSw.cell (p := ⟨y4, 2, none⟩) hl4).trans m42; have c43 := (hSw.cell (p := ⟨y4, 3, none⟩) hl4).trans m43; go_simp; try with_reducible rfl)
         try simp only [pu0, puN, pu1, pu2, pu3]
         refine wpAnyH_take (i := 4) (oi := ({ dst := some 122, op := Op.move (Operand.tmp 4), type := 32, pos := "law.go:165", after := #[], guard := none } : Oper)) (v := ?av104) rfl (by kernel_rfl) (by kernel_rfl) (by kernel_rfl) (fun _ _ _ h => h) (Or.inl ⟨by rfl, ?ay104⟩) T0 ?_
         case ay104 => (intro V hSw; go_simp; try with_reducible rfl)
         try simp only [pu0, puN, pu1, pu2, pu3]
         refine wpAnyH_take (i := 5) (oi := ({ dst := some 123, op := Op.load 64 (Operand.tmp 7), type := 64, pos := "law.go:165", after := #[], guard := none } : Oper)) (v := ?av105) rfl (by kernel_rfl) (by kernel_rfl) (by kernel_rfl) (fun _ _ _ h => h) (Or.inl ⟨by rfl, ?ay105⟩) T0 ?_
         case ay105 => (intro V hSw; have c10 := (hSw.cell (p := ⟨y1, 0, none⟩) hl1).trans m10; have c11 := (hSw.cell (p := ⟨y1, 1, none⟩) hl1).trans m11; have c12 := (hSw.cell (p := ⟨y1, 2, none⟩) hl1).trans m12; have c13 := (hSw.cell (p := ⟨y1, 3, none⟩) hl1).trans m13; go_simp; try with_reducible rfl)
         try simp only [pu0, puN, pu1, pu2, pu3]
         refine wpAnyH_take (i := 6) (oi := ({ dst := some 124, op := Op.move (Operand.tmp 4), type := 32, pos := "law.go:165", after := #[], guard := none } : Oper)) (v := ?av106) rfl (by kernel_rfl) (by kernel_rfl) (by kernel_rfl) (fun _ _ _ h => h) (Or.inl ⟨by rfl, ?ay106⟩) T0 ?_
         case ay106 => (intro V hSw; go_simp; try with_reducible rfl)
         try simp only [pu0, puN, pu1, pu2, pu3]
         refine wpAnyH_take (i := 7) (oi := ({ dst := some 125, op := Op.load 64 (Operand.tmp 9), type := 64, pos := "law.go:165", after := #[], guard := none } : Oper)) (v := ?av107) rfl (by kernel_rfl) (by kernel_rfl) (by kernel_rfl) (fun _ _ _ h => h) (Or.inl ⟨by rfl, ?ay107⟩) T0 ?_
         case ay107 => (intro V hSw; have c20 := (hSw.cell (p := ⟨y2, 0, none⟩) hl2).trans m20; have c21 := (hSw.cell (p := ⟨y2, 1, none⟩) hl2).trans m21; have c22 := (hSw.cell (p := ⟨y2, 2, none⟩) hl2).trans m22; have c23 := (hSw.cell (p := ⟨y2, 3, none⟩) hl2).trans m23; go_simp; try with_reducible rfl)
         try simp only [pu0, puN, pu1, pu2, pu3]
         refine wpAnyH_take (i := 8) (oi := ({ dst := some 126, op := Op.load 64 (Operand.tmp 12), type := 64, pos := "law.go:165", after := #[], guard := none } : Oper)) (v := ?av108) rfl (by kernel_rfl) (by kernel_rfl) (by kernel_rfl) (fun _ _ _ h => h) (Or.inl ⟨by rfl, ?ay108⟩) T0 ?_
         case ay108 => (intro V hSw; have c40 := (hSw.cell (p := ⟨y4, 0, none⟩) hl4).trans m40; have c41 := (hSw.cell (p := ⟨y4, 1, none⟩) hl4).trans m41; have c42 := (hSw.cell (p := ⟨y4, 2, none⟩) hl4).trans m42; have c43 := (hSw.cell (p := ⟨y4, 3, none⟩) hl4).trans m43; go_simp; try with_reducible rfl)
         try simp only [pu0, puN, pu1, pu2, pu3]
         refine wpAnyH_ready (rs := [3]) (by kernel_rfl) (by simp) ?_
         refine (AllReadyH.cons (o := _) rfl (fun K hK => ?_) AllReadyH.nil)
         go_simp
         refine (Join_any (HT.out.below ((X.out.trans (T0.mono X.out.size)).mono HT.out.hB)) SZ3.out SZ4.out).mono ?_
         rintro e P109 ⟨k5, d5, n5, s5, rfl, hE5, hs5, hb109⟩
         have T109 := T0.trans (hb109.mono T0.size)
         try go_wp2_with fail
         refine hK.out _ _ T109 (fun hS109 => ?_)
         clear hK K
         try simp only [pu0, puN, pu1, pu2, pu3]
         refine wpAnyH_ready (rs := [9]) (by kernel_rfl) (by simp) ?_
         refine (AllReadyH.cons (o := _) rfl (fun K hK => ?_) AllReadyH.nil)
         go_simp
         refine (Join_any (HT.out.below ((X.out.trans (T109.mono X.out.size)).mono HT.out.hB)) SZ2.out SZ4.out).mono ?_
         rintro e P110 ⟨k6, d6, n6, s6, rfl, hE6, hs6, hb110⟩
         have T110 := T109.trans (hb110.mono T109.size)
         try go_wp2_with fail
         refine hK.out _ _ T110 (fun hS110 => ?_)
         clear hK K
         try simp only [pu0, puN, pu1, pu2, pu3]
         refine wpAnyH_ready (rs := [10]) (by kernel_rfl) (by simp) ?_
         refine (AllReadyH.cons (o := _) rfl (fun K hK => ?_) AllReadyH.nil)
         go_simp
         have OK6 : OkK cs7 VT (⟨k6, (d6, L s6), n6⟩ : KN) := hE6 ▸ joinK_ok good7 hV7 OK2.out OK4.out
         have QE : joinK cs7 VT (⟨k1, (d1, L s1), n1⟩ : KN) (⟨k6, (d6, L s6), n6⟩ : KN) = (⟨k5, (d5, L s5), n5⟩ : KN) := by rw [hE5, hE6, E3.out]; exact (joinK_assoc good7 hV7 OK1.out OK2.out OK4.out).symm
         refine ((Join_any (HT.out.below ((X.out.trans (T110.mono X.out.size)).mono HT.out.hB)) SZ1.out hs6).mono (fun e w' h => KAns.lit h k5 d5 n5 s5 QE)).mono ?_
         rintro e P111 ⟨rfl, hb111⟩
         have T111 := T110.trans (hb111.mono T110.size)
         try go_wp2_with fail
         refine hK.out _ _ T111 (fun hS111 => ?_)
         clear hK K
         try simp only [pu0, puN, pu1, pu2, pu3]
         refine wpAnyH_take (i := 11) (oi := ({ dst := some 129, op := Op.binOp BinOp.neq 64 (Operand.tmp 121) (Operand.tmp 128) 64, type := 4, pos := "law.go:165", after := #[{ on := 3, ground := Ground.data }, { on := 10, ground := Ground.data }], guard := none } : Oper)) (v := ?av112) rfl (by kernel_rfl) (by kernel_rfl) (by kernel_rfl) (fun _ _ _ h => h) (Or.inl ⟨by rfl, ?ay112⟩) T111 ?_
         case ay112 => (intro V hSw; have qn := neq64_same k5 d5 n5 s5 V; go_simp; try with_reducible rfl)
         try simp only [pu0, puN, pu1, pu2, pu3]
         refine wpAnyH_take (i := 12) (oi := ({ dst := some 130, op := Op.move (Operand.tmp 129), type := 4, pos := "law.go:165", after := #[{ on := 11, ground := Ground.data }, { on := 10, ground := Ground.chain }], guard := none } : Oper)) (v := ?av113) rfl (by kernel_rfl) (by kernel_rfl) (by kernel_rfl) (fun _ _ _ h => h) (Or.inl ⟨by rfl, ?ay113⟩) T111 ?_
         case ay113 => (intro V hSw; go_simp; try with_reducible rfl)
         try simp only [pu0, puN, pu1, pu2, pu3]
         refine wpAnyH_take (i := 13) (oi := ({ dst := some 131, op := Op.move (Operand.tmp 4), type := 32, pos := "law.go:165", after := #[{ on := 12, ground := Ground.guard }], guard := some (12, false) } : Oper)) (v := ?av114) rfl (by kernel_rfl) (by kernel_rfl) (by kernel_rfl) (fun _ _ _ h => h) (Or.inl ⟨by rfl, ?ay114⟩) T111 ?_
         case ay114 => (intro V hSw; go_simp; try with_reducible rfl)
         try simp only [pu0, puN, pu1, pu2, pu3]
         refine wpAnyH_take (i := 14) (oi := ({ dst := some 132, op := Op.load 64 (Operand.tmp 7), type := 64, pos := "law.go:165", after := #[{ on := 12, ground := Ground.guard }], guard := some (12, false) } : Oper)) (v := ?av115) rfl (by kernel_rfl) (by kernel_rfl) (by kernel_rfl) (fun _ _ _ h => h) (Or.inl ⟨by rfl, ?ay115⟩) T111 ?_
         case ay115 => (intro V hSw; have c10 := (hSw.cell (p := ⟨y1, 0, none⟩) hl1).trans m10; have c11 := (hSw.cell (p := ⟨y1, 1, none⟩) hl1).trans m11; have c12 := (hSw.cell (p := ⟨y1, 2, none⟩) hl1).trans m12; have c13 := (hSw.cell (p := ⟨y1, 3, none⟩) hl1).trans m13; go_simp; try with_reducible rfl)
         try simp only [pu0, puN, pu1, pu2, pu3]
         refine wpAnyH_take (i := 15) (oi := ({ dst := some 133, op := Op.load 64 (Operand.tmp 9), type := 64, pos := "law.go:165", after := #[{ on := 12, ground := Ground.guard }], guard := some (12, false) } : Oper)) (v := ?av116) rfl (by kernel_rfl) (by kernel_rfl) (by kernel_rfl) (fun _ _ _ h => h) (Or.inl ⟨by rfl, ?ay116⟩) T111 ?_
         case ay116 => (intro V hSw; have c20 := (hSw.cell (p := ⟨y2, 0, none⟩) hl2).trans m20; have c21 := (hSw.cell (p := ⟨y2, 1, none⟩) hl2).trans m21; have c22 := (hSw.cell (p := ⟨y2, 2, none⟩) hl2).trans m22; have c23 := (hSw.cell (p := ⟨y2, 3, none⟩) hl2).trans m23; go_simp; try with_reducible rfl)
         try simp only [pu0, puN, pu1, pu2, pu3]
         refine wpAnyH_ready (rs := [16]) (by kernel_rfl) (by simp) ?_
         refine (AllReadyH.cons (o := _) rfl (fun K hK => ?_) AllReadyH.nil)
         go_simp
         refine ((Below_any (HT.out.below ((X.out.trans (T111.mono X.out.size)).mono HT.out.hB)) SZ1.out SZ2.out).mono (fun e w' h => BAns.no h HAB.out)).mono ?_
         rintro e P117 ⟨rfl, hb117⟩
         have T117 := T111.trans (hb117.mono T111.size)
         try go_wp2_with fail
         refine hK.out _ _ T117 (fun hS117 => ?_)
         clear hK K
         try simp only [pu0, puN, pu1, pu2, pu3]
         refine wpAnyH_take (i := 17) (oi := ({ dst := some 135, op := Op.move (Operand.tmp 134), type := 4, pos := "law.go:165", after := #[{ on := 16, ground := Ground.data }, { on := 16, ground := Ground.chain }, { on := 12, ground := Ground.guard }], guard := some (12, false) } : Oper)) (v := ?av118) rfl (by kernel_rfl) (by kernel_rfl) (by kernel_rfl) (fun _ _ _ h => h) (Or.inl ⟨by rfl, ?ay118⟩) T117 ?_
         case ay118 => (intro V hSw; go_simp; try with_reducible rfl)
         try simp only [pu0, puN, pu1, pu2, pu3]
         refine wpAnyH_take (i := 18) (oi := ({ dst := some 136, op := Op.move (Operand.tmp 4), type := 32, pos := "law.go:165", after := #[{ on := 17, ground := Ground.guard }], guard := some (17, true) } : Oper)) (v := undef) rfl (by kernel_rfl) (by kernel_rfl) (by kernel_rfl) (fun _ _ _ h => h) (Or.inr ⟨by rfl, rfl⟩) T117 ?_
         try simp only [pu0, puN, pu1, pu2, pu3]
         refine wpAnyH_take (i := 19) (oi := ({ dst := some 137, op := Op.load 64 (Operand.tmp 9), type := 64, pos := "law.go:165", after := #[{ on := 17, ground := Ground.guard }], guard := some (17, true) } : Oper)) (v := undef) rfl (by kernel_rfl) (by kernel_rfl) (by kernel_rfl) (fun _ _ _ h => h) (Or.inr ⟨by rfl, rfl⟩) T117 ?_
         try simp only [pu0, puN, pu1, pu2, pu3]
         refine wpAnyH_take (i := 20) (oi := ({ dst := some 138, op := Op.load 64 (Operand.tmp 12), type := 64, pos := "law.go:165", after := #[{ on := 17, ground := Ground.guard }], guard := some (17, true) } : Oper)) (v := undef) rfl (by kernel_rfl) (by kernel_rfl) (by kernel_rfl) (fun _ _ _ h => h) (Or.inr ⟨by rfl, rfl⟩) T117 ?_
         try simp only [pu0, puN, pu1, pu2, pu3]
         refine wpAnyH_take (i := 21) (oi := ({ dst := some 139, op := Op.call { callee := Callee.value (Operand.func 43), args := #[Operand.tmp 136, Operand.tmp 137, Operand.tmp 138], argTypes := #[32, 64, 64] }, type := 4, pos := "law.go:165", after := #[{ on := 18, ground := Ground.data }, { on := 19, ground := Ground.data }, { on := 20, ground := Ground.data }, { on := 17, ground := Ground.chain }, { on := 17, ground := Ground.guard }], guard := some (17, true) } : Oper)) (v := undef) rfl (by kernel_rfl) (by kernel_rfl) (by kernel_rfl) (fun _ _ _ h => h) (Or.inr ⟨by rfl, rfl⟩) T117 ?_
         try simp only [pu0, puN, pu1, pu2, pu3]
         refine wpAnyH_take (i := 22) (oi := ({ dst := some 140, op := Op.pick (Operand.tmp 135) (Operand.tmp 139) (Operand.const (Value.bool false)), type := 4, pos := "law.go:165", after := #[{ on := 17, ground := Ground.data }, { on := 21, ground := Ground.data }, { on := 12, ground := Ground.guard }], guard := some (12, false) } : Oper)) (v := ?av119) rfl (by kernel_rfl) (by kernel_rfl) (by kernel_rfl) (fun _ _ _ h => h) (Or.inl ⟨by rfl, ?ay119⟩) T117 ?_
         case ay119 => (intro V hSw; go_simp; try with_reducible rfl)
         try simp only [pu0, puN, pu1, pu2, pu3]
         refine wpAnyH_take (i := 23) (oi := ({ dst := some 141, op := Op.move (Operand.tmp 140), type := 4, pos := "law.go:165", after := #[{ on := 22, ground := Ground.data }, { on := 21, ground := Ground.chain }, { on := 12, ground := Ground.guard }], guard := some (12, false) } : Oper)) (v := ?av120) rfl (by kernel_rfl) (by kernel_rfl) (by kernel_rfl) (fun _ _ _ h => h) (Or.inl ⟨by rfl, ?ay120⟩) T117 ?_
         case ay120 => (intro V hSw; go_simp; try with_reducible rfl)
         try simp only [pu0, puN, pu1, pu2, pu3]
         refine wpAnyH_take (i := 24) (oi := ({ dst := some 142, op := Op.move (Operand.tmp 4), type := 32, pos := "law.go:165", after := #[{ on := 23, ground := Ground.guard }], guard := some (23, true) } : Oper)) (v := undef) rfl (by kernel_rfl) (by kernel_rfl) (by kernel_rfl) (fun _ _ _ h => h) (Or.inr ⟨by rfl, rfl⟩) T117 ?_
         try simp only [pu0, puN, pu1, pu2, pu3]
         refine wpAnyH_take (i := 25) (oi := ({ dst := some 143, op := Op.load 64 (Operand.tmp 7), type := 64, pos := "law.go:165", after := #[{ on := 23, ground := Ground.guard }], guard := some (23, true) } : Oper)) (v := undef) rfl (by kernel_rfl) (by kernel_rfl) (by kernel_rfl) (fun _ _ _ h => h) (Or.inr ⟨by rfl, rfl⟩) T117 ?_
         try simp only [pu0, puN, pu1, pu2, pu3]
         refine wpAnyH_take (i := 26) (oi := ({ dst := some 144, op := Op.load 64 (Operand.tmp 12), type := 64, pos := "law.go:165", after := #[{ on := 23, ground := Ground.guard }], guard := some (23, true) } : Oper)) (v := undef) rfl (by kernel_rfl) (by kernel_rfl) (by kernel_rfl) (fun _ _ _ h => h) (Or.inr ⟨by rfl, rfl⟩) T117 ?_
         try simp only [pu0, puN, pu1, pu2, pu3]
         refine wpAnyH_take (i := 27) (oi := ({ dst := some 145, op := Op.call { callee := Callee.value (Operand.func 43), args := #[Operand.tmp 142, Operand.tmp 143, Operand.tmp 144], argTypes := #[32, 64, 64] }, type := 4, pos := "law.go:165", after := #[{ on := 24, ground := Ground.data }, { on := 25, ground := Ground.data }, { on := 26, ground := Ground.data }, { on := 23, ground := Ground.chain }, { on := 23, ground := Ground.guard }], guard := some (23, true) } : Oper)) (v := undef) rfl (by kernel_rfl) (by kernel_rfl) (by kernel_rfl) (fun _ _ _ h => h) (Or.inr ⟨by rfl, rfl⟩) T117 ?_
         try simp only [pu0, puN, pu1, pu2, pu3]
         refine wpAnyH_take (i := 28) (oi := ({ dst := some 146, op := Op.unOp UnOp.not 4 (Operand.tmp 145), type := 4, pos := "law.go:165", after := #[{ on := 27, ground := Ground.data }, { on := 23, ground := Ground.guard }], guard := some (23, true) } : Oper)) (v := undef) rfl (by kernel_rfl) (by kernel_rfl) (by kernel_rfl) (fun _ _ _ h => h) (Or.inr ⟨by rfl, rfl⟩) T117 ?_
         try simp only [pu0, puN, pu1, pu2, pu3]
         refine wpAnyH_take (i := 29) (oi := ({ dst := some 147, op := Op.pick (Operand.tmp 141) (Operand.tmp 146) (Operand.const (Value.bool false)), type := 4, pos := "law.go:165", after := #[{ on := 23, ground := Ground.data }, { on := 28, ground := Ground.data }, { on := 12, ground := Ground.guard }], guard := some (12, false) } : Oper)) (v := ?av121) rfl (by kernel_rfl) (by kernel_rfl) (by kernel_rfl) (fun _ _ _ h => h) (Or.inl ⟨by rfl, ?ay121⟩) T117 ?_
         case ay121 => (intro V hSw; go_simp; try with_reducible rfl)
         try simp only [pu0, puN, pu1, pu2, pu3]
         refine wpAnyH_take (i := 30) (oi := ({ dst := some 148, op := Op.pick (Operand.tmp 130) (Operand.const (Value.bool true)) (Operand.tmp 147), type := 4, pos := "law.go:165", after := #[{ on := 12, ground := Ground.data }, { on := 29, ground := Ground.data }], guard := none } : Oper)) (v := ?av122) rfl (by kernel_rfl) (by kernel_rfl) (by kernel_rfl) (fun _ _ _ h => h) (Or.inl ⟨by rfl, ?ay122⟩) T117 ?_
         case ay122 => (intro V hSw; go_simp; try with_reducible rfl)
         try simp only [pu0, puN, pu1, pu2, pu3]
         refine wpAnyH_done (by kernel_rfl) ?_ _
         try go_wp2
         go_meet
         case rel => exact ⟨rfl, T117⟩
       obtain ⟨rfl, hb⟩ := hcut
       obtain ⟨V10, hV⟩ : ∃ x, x = wc := ⟨_, rfl⟩
       subst hV
       replace X := Lib.hid (X.out.trans (hb.mono X.out.size))
       replace Zi := Lib.hid (Zi.out.trans (hb.mono Zi.out.size))
       replace Zj := Lib.hid (Zj.out.trans (hb.mono Zj.out.size))
       replace Zm := Lib.hid (Zm.out.trans (hb.mono Zm.out.size))
       replace H1 := Lib.hid ((hb.block _ (lt_of_block H1.out)).trans H1.out)
       replace H2 := Lib.hid ((hb.block _ (lt_of_block H2.out)).trans H2.out)
       replace H3 := Lib.hid ((hb.block _ (lt_of_block H3.out)).trans H3.out)
       replace H4 := Lib.hid ((hb.block _ (lt_of_block H4.out)).trans H4.out)
       clear hb
       go_wp2
       go_roundg (gm - 1)
       case measure => exact hgxm
       case rel => exact ⟨m + 1, by go_num, by omega, Zm.out⟩
      ·have hmq2 : q ≤ m := by omega
       by_cases hmx : m < l.length
       ·have hmy := hq3 m hmq2 hmx
        have em1 : decide ((m : Int) < l.length) = true := decide_eq_true (by omega)
        have em2 : decide ((m : Int) < 12) = false := decide_eq_false (by omega)
        clear hmq
        go_wp2
        go_roundg (gj - 1)
        case measure => exact hgxj
        case rel => exact ⟨j + 1, by go_num, by omega, Zj.out⟩
       ·have em1 : decide ((m : Int) < l.length) = false := decide_eq_false (by omega)
        clear hmq
        go_wp2
        go_roundg (gj - 1)
        case measure => exact hgxj
        case rel => exact ⟨j + 1, by go_num, by omega, Zj.out⟩
    ·have hjq2 : q ≤ j := by omega
     by_cases hjx : j < l.length
     ·have hjy := hq3 j hjq2 hjx
      have ej1 : decide ((j : Int) < l.length) = true := decide_eq_true (by omega)
      have ej2 : decide ((j : Int) < 12) = false := decide_eq_false (by omega)
      clear hjq
      go_wp2
      go_roundg (gi - 1)
      case measure => exact hgxi
      case rel => exact ⟨i + 1, by go_num, by omega, X.out⟩
     ·have ej1 : decide ((j : Int) < l.length) = false := decide_eq_false (by omega)
      clear hjq
      go_wp2
      go_roundg (gi - 1)
      case measure => exact hgxi
      case rel => exact ⟨i + 1, by go_num, by omega, X.out⟩
  ·have hiq2 : q ≤ i := by omega
   by_cases hix : i < l.length
   ·have hiy := hq3 i hiq2 hix
    have ei1 : decide ((i : Int) < l.length) = true := decide_eq_true (by omega)
    have ei2 : decide ((i : Int) < 12) = false := decide_eq_false (by omega)
    clear hiq
    have BZ := Lib.hid (Below.hlink BU.out X.out)
    go_wp2
    go_ret
    exact ⟨rfl, BZ.out⟩
   ·have ei1 : decide ((i : Int) < l.length) = false := decide_eq_false (by omega)
    clear hiq
    have BZ := Lib.hid (Below.hlink BU.out X.out)
    go_wp2
    go_ret
    exact ⟨rfl, BZ.out⟩
end Go.Proofs.YtmaknddlgppinaaGreatDoor
