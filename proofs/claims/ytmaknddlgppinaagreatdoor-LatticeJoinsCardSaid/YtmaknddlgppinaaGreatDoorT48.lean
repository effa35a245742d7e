/-
  CUT and joined from the texts of this seat: Ne
-/
import Derived.Test.YtmaknddlgppinaaGreatDoorT01
import Derived.Test.YtmaknddlgppinaaGreatDoorT47
import Derived.Test.YtmaknddlgppinaaGreatDoorT41
set_option linter.unusedVariables false
set_option linter.unusedSimpArgs false
namespace Go.Proofs.YtmaknddlgppinaaGreatDoor
open Go.RowKit
set_option maxRecDepth 1000000 in
set_option maxHeartbeats 100000000 in
theorem joins7_any {w : World} (hN : Blt w) {B0 : Nat} (l : List KQ) (ts : List (Int × ByteArray)) (v0 v1 : Value) (hk : KRow B0 w v0 l) (hy : YRow B0 w v1 ts) (hB : B0 ≤ w.heap.size) :
  Calls Tryz.prog 9 #[v0, v1] w fun e w' => e = .returned (.bool true) ∧ Below w.heap.size w w' := by
 have HN := Lib.hid hN
 obtain ⟨Ak, ck, rfl, _, hmk, hrk⟩ := id hk
 obtain ⟨Ay, cy, rfl, _, hmy, hry⟩ := id hy
 have K0 := Lib.hid hk
 have Y0 := Lib.hid hy
 have hMk : ((l.length : Nat) : Int) ≤ 9223372036854775807 := by unfold maxLen at hmk; omega
 have hMy : ((ts.length : Nat) : Int) ≤ 9223372036854775807 := by unfold maxLen at hmy; omega
 clear hN hk hy hmk hmy hrk hry
 go_enter Tryz.func9, Tryz.ntmps9
 go_wp2_with fail
 refine (shown7_any HN.out).mono ?_
 rintro e w1 ⟨rfl, b1⟩
 have B1 := Lib.hid b1
 clear b1
 go_wp2_with fail
 refine (tables7r_any (HN.out.below B1.out)).mono ?_
 rintro e U ⟨Bt, nb, mb, A, cap, cl, sl, S, pu, Au, cu, rfl, ht, hu, b2⟩
 have BU := Lib.hid (Below.hlink B1.out b2)
 have HT := Lib.hid ht
 have HU := Lib.hid hu
 have X := Lib.hid (Below.refl U.heap.size U)
 have HK := Lib.hid (show KRow U.heap.size U (.slice Ak l.length ck) l from (K0.out.keep (fun p hp => BU.out.cell (Nat.lt_of_lt_of_le hp hB))).more (Nat.le_trans hB BU.out.size))
 have HY := Lib.hid (show YRow U.heap.size U (.slice Ay ts.length cy) ts from (Y0.out.keep (fun p hp => BU.out.cell (Nat.lt_of_lt_of_le hp hB))).more (Nat.le_trans hB BU.out.size))
 clear ht hu b2 B1 HN K0 Y0
 obtain ⟨N, hN⟩ : ∃ N, N = min ts.length 10 := ⟨_, rfl⟩
 have hN1 : N ≤ ts.length := by omega
 have hN2 : N ≤ 10 := by omega
 have hN3 : ∀ i : Nat, N ≤ i → i < ts.length → 10 ≤ i := fun i h1 h2 => by omega
 clear hN
 obtain ⟨M, hM⟩ : ∃ M, M = min l.length 10 := ⟨_, rfl⟩
 have hM1 : M ≤ l.length := by omega
 have hM2 : M ≤ 10 := by omega
 have hM3 : ∀ i : Nat, M ≤ i → i < l.length → 10 ≤ i := fun i h1 h2 => by omega
 clear hM
 go_wp2
 go_loopg [8] N (fun g iv wx => ∃ i : Nat, iv = .int .i64 i ∧ i + g = N ∧ (∀ (j : Nat) (t : Int × ByteArray), j < i → ts[j]? = some t → t.2.size ≤ 1000) ∧ Below U.heap.size U wx)
 case atStart => exact ⟨0, rfl, by omega, fun j t hj => by omega, Below.refl _ _⟩
 case round =>
  obtain ⟨i, rfl, hig, hsm, hb⟩ := hrel
  obtain ⟨gi, hgn⟩ : ∃ g, g = gk := ⟨_, rfl⟩
  subst hgn
  have SM := Lib.hid hsm
  clear hsm
  obtain ⟨V1, hV⟩ : ∃ x, x = wr := ⟨_, rfl⟩
  subst hV
  replace X := Lib.hid (X.out.trans (hb.mono X.out.size))
  clear hb
  go_upto_region 8 with fail
  go_cut [38] (fun va wx => va = .bool (decide (i < N)) ∧ wx = V1)
  case first =>
   by_cases hq : i < N
   ·have hz1 : i < ts.length := by omega
    have hz2 : i < 10 := by omega
    have e1 : decide ((i : Int) < (ts.length : Int)) = true := decide_eq_true (by omega)
    have e2 : decide ((i : Int) < 10) = true := decide_eq_true (by omega)
    have DI := Lib.hid (decide_eq_true hq)
    clear hq
    go_wp2
    go_meet
    case rel => exact ⟨by rw [DI.out], rfl⟩
   ·have DI := Lib.hid (decide_eq_false hq)
    by_cases hx : i < ts.length
    ·have hx2 : 10 ≤ i := hN3 i (by omega) hx
     have e1 : decide ((i : Int) < (ts.length : Int)) = true := decide_eq_true (by omega)
     have e2 : decide ((i : Int) < 10) = false := decide_eq_false (by omega)
     clear hq
     go_wp2
     go_meet
     case rel => exact ⟨by rw [DI.out], rfl⟩
    ·have hx2 : ts.length ≤ i := by omega
     have e1 : decide ((i : Int) < (ts.length : Int)) = false := decide_eq_false (by omega)
     clear hq
     go_wp2
     go_meet
     case rel => exact ⟨by rw [DI.out], rfl⟩
  obtain ⟨rfl, hwc⟩ := hcut
  rw [hwc]
  clear hwc wc
  by_cases hiq : i < N
  ·have hgxi : gi - 1 < gi := by omega
   rw [decide_eq_true hiq]
   have hini : i < ts.length := by omega
   have ei1 : decide ((i : Int) < (ts.length : Int)) = true := decide_eq_true (by omega)
   have ei2 : decide ((i : Int) < 10) = true := decide_eq_true (by omega)
   have wi : IntKind.i64.wrap ((i : Int) + 1) = ((i + 1 : Nat) : Int) := by rw [IntWalk.i64_in _ (by omega)]; omega
   obtain ⟨⟨dy, sy⟩, hty⟩ : ∃ t, ts[i]? = some t := ⟨_, List.getElem?_eq_getElem (by omega)⟩
   obtain ⟨by_, oy, e0, hby, y0, y1⟩ := YRow.at_ HY.out hty
   simp only at y0 y1
   have CY0 := Lib.hid y0
   have CY1 := Lib.hid y1
   clear y0 y1
   subst e0
   have my0 := (X.out.cell (p := ⟨by_, oy + i * 2, none⟩) hby).trans CY0.out
   have my1 := (X.out.cell (p := ⟨by_, oy + i * 2 + 1, none⟩) hby).trans CY1.out
   have hbyw : by_ < V1.heap.size := Nat.lt_of_lt_of_le hby X.out.size
   by_cases hz : 1000 < sy.size
   ·have z1 : decide (((sy.size : Nat) : Int) > 1000) = true := decide_eq_true (by omega)
    have z2 : decide (1000 < ((sy.size : Nat) : Int)) = true := decide_eq_true (by omega)
    have z3 : decide (1000 < sy.size) = true := decide_eq_true hz
    have BZ := Lib.hid (Below.hlink BU.out X.out)
    go_wp2
    go_ret
    exact ⟨rfl, BZ.out⟩
   have z1 : decide (((sy.size : Nat) : Int) > 1000) = false := decide_eq_false (by omega)
   have z2 : decide (1000 < ((sy.size : Nat) : Int)) = false := decide_eq_false (by omega)
   have z3 : decide (1000 < sy.size) = false := decide_eq_false hz
   have hzs : sy.size ≤ 1000000 := by omega
   go_upto_region 12 with fail
   go_cut [58] (fun va wx => va = .bool false ∧ Below V1.heap.size V1 wx)
   case first => as_aux_lemma =>
    have T0 := (Below.refl V1.heap.size V1).drew
    refine wp_region_held_drew (S := fun W => Below V1.heap.size V1 W) (by kernel_rfl) T0 (fun hS0 => ?_)
    refine wpAnyH_take (i := 0) (oi := ({ dst := some 48, op := .move (.tmp 1), type := 39, pos := "law.go:71", after := #[], guard := none } : Oper)) (v := ?av1) rfl (by kernel_rfl) (by kernel_rfl) (by kernel_rfl) (fun _ _ _ h => h) (Or.inl ⟨by rfl, ?ay1⟩) T0 ?_
    case ay1 => (intro V hSw; go_simp; try with_reducible rfl)
    try simp only [pu0, puN, pu1, pu2, pu3]
    refine wpAnyH_take (i := 1) (oi := ({ dst := some 49, op := .move (.tmp 8), type := 3, pos := "law.go:71", after := #[], guard := none } : Oper)) (v := ?av2) rfl (by kernel_rfl) (by kernel_rfl) (by kernel_rfl) (fun _ _ _ h => h) (Or.inl ⟨by rfl, ?ay2⟩) T0 ?_
    case ay2 => (intro V hSw; go_simp; try with_reducible rfl)
    try simp only [pu0, puN, pu1, pu2, pu3]
    refine wpAnyH_take (i := 2) (oi := ({ dst := some 50, op := .indexAddr 39 (.tmp 48) (.tmp 49), type := 0, pos := "law.go:71", after := #[⟨0, .data⟩, ⟨1, .data⟩], guard := none } : Oper)) (v := ?av3) rfl (by kernel_rfl) (by kernel_rfl) (by kernel_rfl) (fun _ _ _ h => h) (Or.inl ⟨by rfl, ?ay3⟩) T0 ?_
    case ay3 => (intro V hSw; go_simp; try with_reducible rfl)
    try simp only [pu0, puN, pu1, pu2, pu3]
    refine wpAnyH_take (i := 3) (oi := ({ dst := some 51, op := .load 31 (.tmp 50), type := 31, pos := "law.go:71", after := #[⟨2, .data⟩], guard := none } : Oper)) (v := ?av4) rfl (by kernel_rfl) (by kernel_rfl) (by kernel_rfl) (fun _ _ _ h => h) (Or.inl ⟨by rfl, ?ay4⟩) T0 ?_
    case ay4 => (intro V hSw; have cy0 := (hSw.cell (p := ⟨by_, oy + i * 2, none⟩) hbyw).trans my0; have cy1 := (hSw.cell (p := ⟨by_, oy + i * 2 + 1, none⟩) hbyw).trans my1; go_simp; try with_reducible rfl)
    try simp only [pu0, puN, pu1, pu2, pu3]
    refine wpAnyH_take (i := 5) (oi := ({ dst := some 53, op := .move (.tmp 1), type := 39, pos := "law.go:71", after := #[], guard := none } : Oper)) (v := ?av5) rfl (by kernel_rfl) (by kernel_rfl) (by kernel_rfl) (fun _ _ _ h => h) (Or.inl ⟨by rfl, ?ay5⟩) T0 ?_
    case ay5 => (intro V hSw; go_simp; try with_reducible rfl)
    try simp only [pu0, puN, pu1, pu2, pu3]
    refine wpAnyH_take (i := 6) (oi := ({ dst := some 54, op := .move (.tmp 8), type := 3, pos := "law.go:71", after := #[], guard := none } : Oper)) (v := ?av6) rfl (by kernel_rfl) (by kernel_rfl) (by kernel_rfl) (fun _ _ _ h => h) (Or.inl ⟨by rfl, ?ay6⟩) T0 ?_
    case ay6 => (intro V hSw; go_simp; try with_reducible rfl)
    try simp only [pu0, puN, pu1, pu2, pu3]
    refine wpAnyH_take (i := 7) (oi := ({ dst := some 55, op := .indexAddr 39 (.tmp 53) (.tmp 54), type := 0, pos := "law.go:71", after := #[⟨5, .data⟩, ⟨6, .data⟩], guard := none } : Oper)) (v := ?av7) rfl (by kernel_rfl) (by kernel_rfl) (by kernel_rfl) (fun _ _ _ h => h) (Or.inl ⟨by rfl, ?ay7⟩) T0 ?_
    case ay7 => (intro V hSw; go_simp; try with_reducible rfl)
    try simp only [pu0, puN, pu1, pu2, pu3]
    refine wpAnyH_take (i := 8) (oi := ({ dst := some 56, op := .load 31 (.tmp 55), type := 31, pos := "law.go:71", after := #[⟨7, .data⟩], guard := none } : Oper)) (v := ?av8) rfl (by kernel_rfl) (by kernel_rfl) (by kernel_rfl) (fun _ _ _ h => h) (Or.inl ⟨by rfl, ?ay8⟩) T0 ?_
    case ay8 => (intro V hSw; have cy0 := (hSw.cell (p := ⟨by_, oy + i * 2, none⟩) hbyw).trans my0; have cy1 := (hSw.cell (p := ⟨by_, oy + i * 2 + 1, none⟩) hbyw).trans my1; go_simp; try with_reducible rfl)
    try simp only [pu0, puN, pu1, pu2, pu3]
    refine wpAnyH_ready (rs := [4]) (by kernel_rfl) (by simp) ?_
    refine (AllReadyH.cons (o := _) rfl (fun K hK => ?_) AllReadyH.nil)
    go_simp
    refine (Of_any dy sy _ hzs).mono ?_
    rintro e P9 ⟨k5, d5, n5, s5, rfl, hE5, hs5, hb9⟩
    have T9 := T0.trans (hb9.mono T0.size)
    try go_wp2_with fail
    refine hK.out _ _ T9 (fun hS9 => ?_)
    clear hK K
    try simp only [pu0, puN, pu1, pu2, pu3]
    refine wpAnyH_ready (rs := [9]) (by kernel_rfl) (by simp) ?_
    refine (AllReadyH.cons (o := _) rfl (fun K hK => ?_) AllReadyH.nil)
    go_simp
    refine ((ROf_any dy sy _ hzs).mono (fun e w' h => KAns.lit h k5 d5 n5 s5 hE5.symm)).mono ?_
    rintro e P10 ⟨rfl, hb10⟩
    have T10 := T9.trans (hb10.mono T9.size)
    try go_wp2_with fail
    refine hK.out _ _ T10 (fun hS10 => ?_)
    clear hK K
    try simp only [pu0, puN, pu1, pu2, pu3]
    refine wpAnyH_take (i := 10) (oi := ({ dst := some 58, op := .binOp .neq 64 (.tmp 52) (.tmp 57) 64, type := 4, pos := "law.go:71", after := #[⟨4, .data⟩, ⟨9, .data⟩], guard := none } : Oper)) (v := ?av11) rfl (by kernel_rfl) (by kernel_rfl) (by kernel_rfl) (fun _ _ _ h => h) (Or.inl ⟨by rfl, ?ay11⟩) T10 ?_
    case ay11 => (intro V hSw; have qn := neq64_same k5 d5 n5 s5 V; go_simp; try with_reducible rfl)
    try simp only [pu0, puN, pu1, pu2, pu3]
    refine wpAnyH_done (by kernel_rfl) ?_ _
    try go_wp2
    go_meet
    case rel => exact ⟨rfl, T10⟩
   obtain ⟨rfl, hb⟩ := hcut
   have SM2 := Lib.hid (show ∀ (j : Nat) (t : Int × ByteArray), j < i + 1 → ts[j]? = some t → t.2.size ≤ 1000 from fun j t hj h => by
    rcases Nat.lt_succ_iff_lt_or_eq.1 hj with h' | rfl
    ·exact SM.out j t h' h
    ·cases hty.symm.trans h; show sy.size ≤ 1000; omega)
   clear my0 my1 hbyw hz z1 z2 z3
   obtain ⟨V2, hV⟩ : ∃ x, x = wc := ⟨_, rfl⟩
   subst hV
   replace X := Lib.hid (X.out.trans (hb.mono X.out.size))
   clear hb hty
   go_wp2
   go_roundg (gi - 1)
   case measure => exact hgxi
   case rel => exact ⟨i + 1, by go_num, by omega, SM2.out, X.out⟩
  have hiq2 : N ≤ i := by omega
  rw [decide_eq_false hiq]
  have SN := Lib.hid (show ∀ (j : Nat) (t : Int × ByteArray), j < N → ts[j]? = some t → t.2.size ≤ 1000 from fun j t hj h => SM.out j t (by omega) h)
  clear hiq SM
  go_wp2
  go_loopg [9] M (fun g iv wx => ∃ a : Nat, iv = .int .i64 a ∧ a + g = M ∧ (∀ (j : Nat) (q : KQ), j < a → l[j]? = some q → q.2.2.1.size ≤ 1000) ∧ Below V1.heap.size V1 wx)
  case atStart => exact ⟨0, rfl, by omega, fun j t hj => by omega, Below.refl _ _⟩
  case round => as_aux_lemma =>
   obtain ⟨a, rfl, hag, hsm, hb⟩ := hrel
   obtain ⟨ga, hgn⟩ : ∃ g, g = gk := ⟨_, rfl⟩
   subst hgn
   have SK := Lib.hid hsm
   clear hsm
   have Za := Lib.hid (Below.refl V1.heap.size V1)
   obtain ⟨V3, hV⟩ : ∃ x, x = wr := ⟨_, rfl⟩
   subst hV
   replace X := Lib.hid (X.out.trans (hb.mono X.out.size))
   replace Za := Lib.hid (Za.out.trans (hb.mono Za.out.size))
   clear hb
   go_upto_region 15 with fail
   go_cut [66] (fun va wx => va = .bool (decide (a < M)) ∧ wx = V3)
   case first =>
    by_cases hq : a < M
    ·have hz1 : a < l.length := by omega
     have hz2 : a < 10 := by omega
     have e1 : decide ((a : Int) < (l.length : Int)) = true := decide_eq_true (by omega)
     have e2 : decide ((a : Int) < 10) = true := decide_eq_true (by omega)
     have DI := Lib.hid (decide_eq_true hq)
     clear hq
     go_wp2
     go_meet
     case rel => exact ⟨by rw [DI.out], rfl⟩
    ·have DI := Lib.hid (decide_eq_false hq)
     by_cases hx : a < l.length
     ·have hx2 : 10 ≤ a := hM3 a (by omega) hx
      have e1 : decide ((a : Int) < (l.length : Int)) = true := decide_eq_true (by omega)
      have e2 : decide ((a : Int) < 10) = false := decide_eq_false (by omega)
      clear hq
      go_wp2
      go_meet
      case rel => exact ⟨by rw [DI.out], rfl⟩
     ·have hx2 : l.length ≤ a := by omega
      have e1 : decide ((a : Int) < (l.length : Int)) = false := decide_eq_false (by omega)
      clear hq
      go_wp2
      go_meet
      case rel => exact ⟨by rw [DI.out], rfl⟩
   obtain ⟨rfl, hwc⟩ := hcut
   rw [hwc]
   clear hwc wc
   by_cases haq : a < M
   ·have hgxa : ga - 1 < ga := by omega
    rw [decide_eq_true haq]
    have hina : a < l.length := by omega
    have ea1 : decide ((a : Int) < (l.length : Int)) = true := decide_eq_true (by omega)
    have ea2 : decide ((a : Int) < 10) = true := decide_eq_true (by omega)
    have wa : IntKind.i64.wrap ((a : Int) + 1) = ((a + 1 : Nat) : Int) := by rw [IntWalk.i64_in _ (by omega)]; omega
    obtain ⟨⟨k1, d1, s1, n1⟩, hq1⟩ : ∃ q, l[a]? = some q := ⟨_, List.getElem?_eq_getElem (by omega)⟩
    obtain ⟨b1, o1, e0, hb1, x0, x1, x2, x3⟩ := KRow.at_ HK.out hq1
    simp only at x0 x1 x2 x3
    subst e0
    have C10 := Lib.hid x0
    have C11 := Lib.hid x1
    have C12 := Lib.hid x2
    have C13 := Lib.hid x3
    clear x0 x1 x2 x3
    have m10 := (X.out.cell (p := ⟨b1, o1 + a * 4, none⟩) hb1).trans C10.out
    have m11 := (X.out.cell (p := ⟨b1, o1 + a * 4 + 1, none⟩) hb1).trans C11.out
    have m12 := (X.out.cell (p := ⟨b1, o1 + a * 4 + 2, none⟩) hb1).trans C12.out
    have m13 := (X.out.cell (p := ⟨b1, o1 + a * 4 + 3, none⟩) hb1).trans C13.out
    have hb1w : b1 < V3.heap.size := Nat.lt_of_lt_of_le hb1 X.out.size
    by_cases hz : 1000 < s1.size
    ·have z1 : decide (((s1.size : Nat) : Int) > 1000) = true := decide_eq_true (by omega)
     have z2 : decide (1000 < ((s1.size : Nat) : Int)) = true := decide_eq_true (by omega)
     have z3 : decide (1000 < s1.size) = true := decide_eq_true hz
     go_upto_region 17 with fail
     go_cut [89] (fun va wx => va = .bool true ∧ Below V3.heap.size V3 wx)
     case first => as_aux_lemma =>
      have T0 := (Below.refl V3.heap.size V3).drew
      refine wp_region_held_drew (S := fun W => Below V3.heap.size V3 W) (by kernel_rfl) T0 (fun hS0 => ?_)
      refine wpAnyH_take (i := 0) (oi := ({ dst := some 69, op := .move (.tmp 0), type := 60, pos := "law.go:76", after := #[], guard := none } : Oper)) (v := ?av12) rfl (by kernel_rfl) (by kernel_rfl) (by kernel_rfl) (fun _ _ _ h => h) (Or.inl ⟨by rfl, ?ay12⟩) T0 ?_
      case ay12 => (intro V hSw; go_simp; try with_reducible rfl)
      try simp only [pu0, puN, pu1, pu2, pu3]
      refine wpAnyH_take (i := 1) (oi := ({ dst := some 70, op := .move (.tmp 9), type := 3, pos := "law.go:76", after := #[], guard := none } : Oper)) (v := ?av13) rfl (by kernel_rfl) (by kernel_rfl) (by kernel_rfl) (fun _ _ _ h => h) (Or.inl ⟨by rfl, ?ay13⟩) T0 ?_
      case ay13 => (intro V hSw; go_simp; try with_reducible rfl)
      try simp only [pu0, puN, pu1, pu2, pu3]
      refine wpAnyH_take (i := 2) (oi := ({ dst := some 71, op := .indexAddr 60 (.tmp 69) (.tmp 70), type := 0, pos := "law.go:76", after := #[⟨0, .data⟩, ⟨1, .data⟩], guard := none } : Oper)) (v := ?av14) rfl (by kernel_rfl) (by kernel_rfl) (by kernel_rfl) (fun _ _ _ h => h) (Or.inl ⟨by rfl, ?ay14⟩) T0 ?_
      case ay14 => (intro V hSw; go_simp; try with_reducible rfl)
      try simp only [pu0, puN, pu1, pu2, pu3]
      refine wpAnyH_take (i := 3) (oi := ({ dst := some 72, op := .fieldAddr 64 (.tmp 71) 1, type := 0, pos := "law.go:76", after := #[⟨2, .data⟩], guard := none } : Oper)) (v := ?av15) rfl (by kernel_rfl) (by kernel_rfl) (by kernel_rfl) (fun _ _ _ h => h) (Or.inl ⟨by rfl, ?ay15⟩) T0 ?_
      case ay15 => (intro V hSw; go_simp; try with_reducible rfl)
      try simp only [pu0, puN, pu1, pu2, pu3]
      refine wpAnyH_take (i := 4) (oi := ({ dst := some 73, op := .fieldAddr 31 (.tmp 72) 1, type := 0, pos := "law.go:76", after := #[⟨3, .data⟩], guard := none } : Oper)) (v := ?av16) rfl (by kernel_rfl) (by kernel_rfl) (by kernel_rfl) (fun _ _ _ h => h) (Or.inl ⟨by rfl, ?ay16⟩) T0 ?_
      case ay16 => (intro V hSw; go_simp; try with_reducible rfl)
      try simp only [pu0, puN, pu1, pu2, pu3]
      refine wpAnyH_take (i := 5) (oi := ({ dst := some 74, op := .load 9 (.tmp 73), type := 9, pos := "law.go:76", after := #[⟨4, .data⟩], guard := none } : Oper)) (v := ?av17) rfl (by kernel_rfl) (by kernel_rfl) (by kernel_rfl) (fun _ _ _ h => h) (Or.inl ⟨by rfl, ?ay17⟩) T0 ?_
      case ay17 => (intro V hSw; have c10 := (hSw.cell (p := ⟨b1, o1 + a * 4, none⟩) hb1w).trans m10; have c11 := (hSw.cell (p := ⟨b1, o1 + a * 4 + 1, none⟩) hb1w).trans m11; have c12 := (hSw.cell (p := ⟨b1, o1 + a * 4 + 2, none⟩) hb1w).trans m12; have c13 := (hSw.cell (p := ⟨b1, o1 + a * 4 + 3, none⟩) hb1w).trans m13; go_simp; try with_reducible rfl)
      try simp only [pu0, puN, pu1, pu2, pu3]
      refine wpAnyH_take (i := 6) (oi := ({ dst := some 75, op := .call { callee := .builtin .len, args := #[.tmp 74], argTypes := #[9] }, type := 3, pos := "law.go:76", after := #[⟨5, .data⟩], guard := none } : Oper)) (v := ?av18) rfl (by kernel_rfl) (by kernel_rfl) (by kernel_rfl) (fun _ _ _ h => h) (Or.inl ⟨by rfl, ?ay18⟩) T0 ?_
      case ay18 => (intro V hSw; go_simp; try with_reducible rfl)
      try simp only [pu0, puN, pu1, pu2, pu3]
      refine wpAnyH_take (i := 7) (oi := ({ dst := some 76, op := .binOp .gtr 3 (.tmp 75) (.const (.int .i64 1000)) 3, type := 4, pos := "law.go:76", after := #[⟨6, .data⟩], guard := none } : Oper)) (v := ?av19) rfl (by kernel_rfl) (by kernel_rfl) (by kernel_rfl) (fun _ _ _ h => h) (Or.inl ⟨by rfl, ?ay19⟩) T0 ?_
      case ay19 => (intro V hSw; go_simp; try with_reducible rfl)
      try simp only [pu0, puN, pu1, pu2, pu3]
      refine wpAnyH_take (i := 8) (oi := ({ dst := some 77, op := .move (.tmp 76), type := 4, pos := "law.go:76", after := #[⟨7, .data⟩], guard := none } : Oper)) (v := ?av20) rfl (by kernel_rfl) (by kernel_rfl) (by kernel_rfl) (fun _ _ _ h => h) (Or.inl ⟨by rfl, ?ay20⟩) T0 ?_
      case ay20 => (intro V hSw; go_simp; try with_reducible rfl)
      try simp only [pu0, puN, pu1, pu2, pu3]
      refine wpAnyH_take (i := 9) (oi := ({ dst := some 78, op := .move (.tmp 0), type := 60, pos := "law.go:76", after := #[⟨8, .guard⟩], guard := some (8, false) } : Oper)) (v := undef) rfl (by kernel_rfl) (by kernel_rfl) (by kernel_rfl) (fun _ _ _ h => h) (Or.inr ⟨by rfl, rfl⟩) T0 ?_
      try simp only [pu0, puN, pu1, pu2, pu3]
      refine wpAnyH_take (i := 10) (oi := ({ dst := some 79, op := .move (.tmp 9), type := 3, pos := "law.go:76", after := #[⟨8, .guard⟩], guard := some (8, false) } : Oper)) (v := undef) rfl (by kernel_rfl) (by kernel_rfl) (by kernel_rfl) (fun _ _ _ h => h) (Or.inr ⟨by rfl, rfl⟩) T0 ?_
      try simp only [pu0, puN, pu1, pu2, pu3]
      refine wpAnyH_take (i := 11) (oi := ({ dst := some 80, op := .indexAddr 60 (.tmp 78) (.tmp 79), type := 0, pos := "law.go:76", after := #[⟨9, .data⟩, ⟨10, .data⟩, ⟨8, .guard⟩], guard := some (8, false) } : Oper)) (v := undef) rfl (by kernel_rfl) (by kernel_rfl) (by kernel_rfl) (fun _ _ _ h => h) (Or.inr ⟨by rfl, rfl⟩) T0 ?_
      try simp only [pu0, puN, pu1, pu2, pu3]
      refine wpAnyH_take (i := 12) (oi := ({ dst := some 81, op := .load 64 (.tmp 80), type := 64, pos := "law.go:76", after := #[⟨11, .data⟩, ⟨8, .guard⟩], guard := some (8, false) } : Oper)) (v := undef) rfl (by kernel_rfl) (by kernel_rfl) (by kernel_rfl) (fun _ _ _ h => h) (Or.inr ⟨by rfl, rfl⟩) T0 ?_
      try simp only [pu0, puN, pu1, pu2, pu3]
      refine wpAnyH_take (i := 13) (oi := ({ dst := some 82, op := .call { callee := .value (.func 37), args := #[.tmp 81], argTypes := #[64] }, type := 4, pos := "law.go:76", after := #[⟨12, .data⟩, ⟨8, .chain⟩, ⟨8, .guard⟩], guard := some (8, false) } : Oper)) (v := undef) rfl (by kernel_rfl) (by kernel_rfl) (by kernel_rfl) (fun _ _ _ h => h) (Or.inr ⟨by rfl, rfl⟩) T0 ?_
      try simp only [pu0, puN, pu1, pu2, pu3]
      refine wpAnyH_take (i := 14) (oi := ({ dst := some 83, op := .move (.tmp 0), type := 60, pos := "law.go:76", after := #[⟨8, .guard⟩], guard := some (8, false) } : Oper)) (v := undef) rfl (by kernel_rfl) (by kernel_rfl) (by kernel_rfl) (fun _ _ _ h => h) (Or.inr ⟨by rfl, rfl⟩) T0 ?_
      try simp only [pu0, puN, pu1, pu2, pu3]
      refine wpAnyH_take (i := 15) (oi := ({ dst := some 84, op := .move (.tmp 9), type := 3, pos := "law.go:76", after := #[⟨8, .guard⟩], guard := some (8, false) } : Oper)) (v := undef) rfl (by kernel_rfl) (by kernel_rfl) (by kernel_rfl) (fun _ _ _ h => h) (Or.inr ⟨by rfl, rfl⟩) T0 ?_
      try simp only [pu0, puN, pu1, pu2, pu3]
      refine wpAnyH_take (i := 16) (oi := ({ dst := some 85, op := .indexAddr 60 (.tmp 83) (.tmp 84), type := 0, pos := "law.go:76", after := #[⟨14, .data⟩, ⟨15, .data⟩, ⟨8, .guard⟩], guard := some (8, false) } : Oper)) (v := undef) rfl (by kernel_rfl) (by kernel_rfl) (by kernel_rfl) (fun _ _ _ h => h) (Or.inr ⟨by rfl, rfl⟩) T0 ?_
      try simp only [pu0, puN, pu1, pu2, pu3]
      refine wpAnyH_take (i := 17) (oi := ({ dst := some 86, op := .load 64 (.tmp 85), type := 64, pos := "law.go:76", after := #[⟨16, .data⟩, ⟨8, .guard⟩], guard := some (8, false) } : Oper)) (v := undef) rfl (by kernel_rfl) (by kernel_rfl) (by kernel_rfl) (fun _ _ _ h => h) (Or.inr ⟨by rfl, rfl⟩) T0 ?_
      try simp only [pu0, puN, pu1, pu2, pu3]
      refine wpAnyH_take (i := 18) (oi := ({ dst := some 87, op := .call { callee := .value (.func 38), args := #[.tmp 86], argTypes := #[64] }, type := 4, pos := "law.go:76", after := #[⟨17, .data⟩, ⟨13, .chain⟩, ⟨8, .guard⟩], guard := some (8, false) } : Oper)) (v := undef) rfl (by kernel_rfl) (by kernel_rfl) (by kernel_rfl) (fun _ _ _ h => h) (Or.inr ⟨by rfl, rfl⟩) T0 ?_
      try simp only [pu0, puN, pu1, pu2, pu3]
      refine wpAnyH_take (i := 19) (oi := ({ dst := some 88, op := .binOp .neq 4 (.tmp 82) (.tmp 87) 4, type := 4, pos := "law.go:76", after := #[⟨13, .data⟩, ⟨18, .data⟩, ⟨8, .guard⟩], guard := some (8, false) } : Oper)) (v := undef) rfl (by kernel_rfl) (by kernel_rfl) (by kernel_rfl) (fun _ _ _ h => h) (Or.inr ⟨by rfl, rfl⟩) T0 ?_
      try simp only [pu0, puN, pu1, pu2, pu3]
      refine wpAnyH_take (i := 20) (oi := ({ dst := some 89, op := .pick (.tmp 77) (.const (.bool true)) (.tmp 88), type := 4, pos := "law.go:76", after := #[⟨8, .data⟩, ⟨19, .data⟩], guard := none } : Oper)) (v := ?av21) rfl (by kernel_rfl) (by kernel_rfl) (by kernel_rfl) (fun _ _ _ h => h) (Or.inl ⟨by rfl, ?ay21⟩) T0 ?_
      case ay21 => (intro V hSw; go_simp; try with_reducible rfl)
      try simp only [pu0, puN, pu1, pu2, pu3]
      refine wpAnyH_done (by kernel_rfl) ?_ _
      try go_wp2
      go_meet
      case rel => exact ⟨rfl, T0⟩
     obtain ⟨rfl, hb⟩ := hcut
     have n0 := (hb.cell (p := ⟨b1, o1 + a * 4 + 2, none⟩) hb1w).trans m12
     have BZ := Lib.hid (Below.hlink BU.out (X.out.trans (hb.mono X.out.size)))
     have hb1x := Nat.lt_of_lt_of_le hb1w hb.size
     clear hb m10 m11 m12 m13
     go_wp2
     go_ret
     exact ⟨rfl, BZ.out⟩
    have z1 : decide (((s1.size : Nat) : Int) > 1000) = false := decide_eq_false (by omega)
    have z2 : decide (1000 < ((s1.size : Nat) : Int)) = false := decide_eq_false (by omega)
    have z3 : decide (1000 < s1.size) = false := decide_eq_false hz
    have hzs : s1.size ≤ 1000000 := by omega
    have SK2 := Lib.hid (show ∀ (j : Nat) (q : KQ), j < a + 1 → l[j]? = some q → q.2.2.1.size ≤ 1000 from fun j q hj h => by
     rcases Nat.lt_succ_iff_lt_or_eq.1 hj with h' | rfl
     ·exact SK.out j q h' h
     ·cases hq1.symm.trans h; show s1.size ≤ 1000; omega)
    go_upto_region 17 with fail
    go_cut [89] (fun va wx => va = .bool false ∧ Below V3.heap.size V3 wx)
    case first => as_aux_lemma =>
     have T0 := (Below.refl V3.heap.size V3).drew
     refine wp_region_held_drew (S := fun W => Below V3.heap.size V3 W) (by kernel_rfl) T0 (fun hS0 => ?_)
     refine wpAnyH_take (i := 0) (oi := ({ dst := some 69, op := .move (.tmp 0), type := 60, pos := "law.go:76", after := #[], guard := none } : Oper)) (v := ?av22) rfl (by kernel_rfl) (by kernel_rfl) (by kernel_rfl) (fun _ _ _ h => h) (Or.inl ⟨by rfl, ?ay22⟩) T0 ?_
     case ay22 => (intro V hSw; go_simp; try with_reducible rfl)
     try simp only [pu0, puN, pu1, pu2, pu3]
     refine wpAnyH_take (i := 1) (oi := ({ dst := some 70, op := .move (.tmp 9), type := 3, pos := "law.go:76", after := #[], guard := none } : Oper)) (v := ?av23) rfl (by kernel_rfl) (by kernel_rfl) (by kernel_rfl) (fun _ _ _ h => h) (Or.inl ⟨by rfl, ?ay23⟩) T0 ?_
     case ay23 => (intro V hSw; go_simp; try with_reducible rfl)
     try simp only [pu0, puN, pu1, pu2, pu3]
     refine wpAnyH_take (i := 2) (oi := ({ dst := some 71, op := .indexAddr 60 (.tmp 69) (.tmp 70), type := 0, pos := "law.go:76", after := #[⟨0, .data⟩, ⟨1, .data⟩], guard := none } : Oper)) (v := ?av24) rfl (by kernel_rfl) (by kernel_rfl) (by kernel_rfl) (fun _ _ _ h => h) (Or.inl ⟨by rfl, ?ay24⟩) T0 ?_
     case ay24 => (intro V hSw; go_simp; try with_reducible rfl)
     try simp only [pu0, puN, pu1, pu2, pu3]
     refine wpAnyH_take (i := 3) (oi := ({ dst := some 72, op := .fieldAddr 64 (.tmp 71) 1, type := 0, pos := "law.go:76", after := #[⟨2, .data⟩], guard := none } : Oper)) (v := ?av25) rfl (by kernel_rfl) (by kernel_rfl) (by kernel_rfl) (fun _ _ _ h => h) (Or.inl ⟨by rfl, ?ay25⟩) T0 ?_
     case ay25 => (intro V hSw; go_simp; try with_reducible rfl)
     try simp only [pu0, puN, pu1, pu2, pu3]
     refine wpAnyH_take (i := 4) (oi := ({ dst := some 73, op := .fieldAddr 31 (.tmp 72) 1, type := 0, pos := "law.go:76", after := #[⟨3, .data⟩], guard := none } : Oper)) (v := ?av26) rfl (by kernel_rfl) (by kernel_rfl) (by kernel_rfl) (fun _ _ _ h => h) (Or.inl ⟨by rfl, ?ay26⟩) T0 ?_
     case ay26 => (intro V hSw; go_simp; try with_reducible rfl)
     try simp only [pu0, puN, pu1, pu2, pu3]
     refine wpAnyH_take (i := 5) (oi := ({ dst := some 74, op := .load 9 (.tmp 73), type := 9, pos := "law.go:76", after := #[⟨4, .data⟩], guard := none } : Oper)) (v := ?av27) rfl (by kernel_rfl) (by kernel_rfl) (by kernel_rfl) (fun _ _ _ h => h) (Or.inl ⟨by rfl, ?ay27⟩) T0 ?_
     case ay27 => (intro V hSw; have c10 := (hSw.cell (p := ⟨b1, o1 + a * 4, none⟩) hb1w).trans m10; have c11 := (hSw.cell (p := ⟨b1, o1 + a * 4 + 1, none⟩) hb1w).trans m11; have c12 := (hSw.cell (p := ⟨b1, o1 + a * 4 + 2, none⟩) hb1w).trans m12; have c13 := (hSw.cell (p := ⟨b1, o1 + a * 4 + 3, none⟩) hb1w).trans m13; go_simp; try with_reducible rfl)
     try simp only [pu0, puN, pu1, pu2, pu3]
     refine wpAnyH_take (i := 6) (oi := ({ dst := some 75, op := .call { callee := .builtin .len, args := #[.tmp 74], argTypes := #[9] }, type := 3, pos := "law.go:76", after := #[⟨5, .data⟩], guard := none } : Oper)) (v := ?av28) rfl (by kernel_rfl) (by kernel_rfl) (by kernel_rfl) (fun _ _ _ h => h) (Or.inl ⟨by rfl, ?ay28⟩) T0 ?_
     case ay28 => (intro V hSw; go_simp; try with_reducible rfl)
     try simp only [pu0, puN, pu1, pu2, pu3]
     refine wpAnyH_take (i := 7) (oi := ({ dst := some 76, op := .binOp .gtr 3 (.tmp 75) (.const (.int .i64 1000)) 3, type := 4, pos := "law.go:76", after := #[⟨6, .data⟩], guard := none } : Oper)) (v := ?av29) rfl (by kernel_rfl) (by kernel_rfl) (by kernel_rfl) (fun _ _ _ h => h) (Or.inl ⟨by rfl, ?ay29⟩) T0 ?_
     case ay29 => (intro V hSw; go_simp; try with_reducible rfl)
     try simp only [pu0, puN, pu1, pu2, pu3]
     refine wpAnyH_take (i := 8) (oi := ({ dst := some 77, op := .move (.tmp 76), type := 4, pos := "law.go:76", after := #[⟨7, .data⟩], guard := none } : Oper)) (v := ?av30) rfl (by kernel_rfl) (by kernel_rfl) (by kernel_rfl) (fun _ _ _ h => h) (Or.inl ⟨by rfl, ?ay30⟩) T0 ?_
     case ay30 => (intro V hSw; go_simp; try with_reducible rfl)
     try simp only [pu0, puN, pu1, pu2, pu3]
     refine wpAnyH_take (i := 9) (oi := ({ dst := some 78, op := .move (.tmp 0), type := 60, pos := "law.go:76", after := #[⟨8, .guard⟩], guard := some (8, false) } : Oper)) (v := ?av31) rfl (by kernel_rfl) (by kernel_rfl) (by kernel_rfl) (fun _ _ _ h => h) (Or.inl ⟨by rfl, ?ay31⟩) T0 ?_
     case ay31 => (intro V hSw; go_simp; try with_reducible rfl)
     try simp only [pu0, puN, pu1, pu2, pu3]
     refine wpAnyH_take (i := 10) (oi := ({ dst := some 79, op := .move (.tmp 9), type := 3, pos := "law.go:76", after := #[⟨8, .guard⟩], guard := some (8, false) } : Oper)) (v := ?av32) rfl (by kernel_rfl) (by kernel_rfl) (by kernel_rfl) (fun _ _ _ h => h) (Or.inl ⟨by rfl, ?ay32⟩) T0 ?_
     case ay32 => (intro V hSw; go_simp; try with_reducible rfl)
     try simp only [pu0, puN, pu1, pu2, pu3]
     refine wpAnyH_take (i := 11) (oi := ({ dst := some 80, op := .indexAddr 60 (.tmp 78) (.tmp 79), type := 0, pos := "law.go:76", after := #[⟨9, .data⟩, ⟨10, .data⟩, ⟨8, .guard⟩], guard := some (8, false) } : Oper)) (v := ?av33) rfl (by kernel_rfl) (by kernel_rfl) (by kernel_rfl) (fun _ _ _ h => h) (Or.inl ⟨by rfl, ?ay33⟩) T0 ?_
     case ay33 => (intro V hSw; go_simp; try with_reducible rfl)
     try simp only [pu0, puN, pu1, pu2, pu3]
     refine wpAnyH_take (i := 12) (oi := ({ dst := some 81, op := .load 64 (.tmp 80), type := 64, pos := "law.go:76", after := #[⟨11, .data⟩, ⟨8, .guard⟩], guard := some (8, false) } : Oper)) (v := ?av34) rfl (by kernel_rfl) (by kernel_rfl) (by kernel_rfl) (fun _ _ _ h => h) (Or.inl ⟨by rfl, ?ay34⟩) T0 ?_
     case ay34 => (intro V hSw; have c10 := (hSw.cell (p := ⟨b1, o1 + a * 4, none⟩) hb1w).trans m10; have c11 := (hSw.cell (p := ⟨b1, o1 + a * 4 + 1, none⟩) hb1w).trans m11; have c12 := (hSw.cell (p := ⟨b1, o1 + a * 4 + 2, none⟩) hb1w).trans m12; have c13 := (hSw.cell (p := ⟨b1, o1 + a * 4 + 3, none⟩) hb1w).trans m13; go_simp; try with_reducible rfl)
     try simp only [pu0, puN, pu1, pu2, pu3]
     refine wpAnyH_take (i := 14) (oi := ({ dst := some 83, op := .move (.tmp 0), type := 60, pos := "law.go:76", after := #[⟨8, .guard⟩], guard := some (8, false) } : Oper)) (v := ?av35) rfl (by kernel_rfl) (by kernel_rfl) (by kernel_rfl) (fun _ _ _ h => h) (Or.inl ⟨by rfl, ?ay35⟩) T0 ?_
     case ay35 => (intro V hSw; go_simp; try with_reducible rfl)
     try simp only [pu0, puN, pu1, pu2, pu3]
     refine wpAnyH_take (i := 15) (oi := ({ dst := some 84, op := .move (.tmp 9), type := 3, pos := "law.go:76", after := #[⟨8, .guard⟩], guard := some (8, false) } : Oper)) (v := ?av36) rfl (by kernel_rfl) (by kernel_rfl) (by kernel_rfl) (fun _ _ _ h => h) (Or.inl ⟨by rfl, ?ay36⟩) T0 ?_
     case ay36 => (intro V hSw; go_simp; try with_reducible rfl)
     try simp only [pu0, puN, pu1, pu2, pu3]
     refine wpAnyH_take (i := 16) (oi := ({ dst := some 85, op := .indexAddr 60 (.tmp 83) (.tmp 84), type := 0, pos := "law.go:76", after := #[⟨14, .data⟩, ⟨15, .data⟩, ⟨8, .guard⟩], guard := some (8, false) } : Oper)) (v := ?av37) rfl (by kernel_rfl) (by kernel_rfl) (by kernel_rfl) (fun _ _ _ h => h) (Or.inl ⟨by rfl, ?ay37⟩) T0 ?_
     case ay37 => (intro V hSw; go_simp; try with_reducible rfl)
     try simp only [pu0, puN, pu1, pu2, pu3]
     refine wpAnyH_take (i := 17) (oi := ({ dst := some 86, op := .load 64 (.tmp 85), type := 64, pos := "law.go:76", after := #[⟨16, .data⟩, ⟨8, .guard⟩], guard := some (8, false) } : Oper)) (v := ?av38) rfl (by kernel_rfl) (by kernel_rfl) (by kernel_rfl) (fun _ _ _ h => h) (Or.inl ⟨by rfl, ?ay38⟩) T0 ?_
     case ay38 => (intro V hSw; have c10 := (hSw.cell (p := ⟨b1, o1 + a * 4, none⟩) hb1w).trans m10; have c11 := (hSw.cell (p := ⟨b1, o1 + a * 4 + 1, none⟩) hb1w).trans m11; have c12 := (hSw.cell (p := ⟨b1, o1 + a * 4 + 2, none⟩) hb1w).trans m12; have c13 := (hSw.cell (p := ⟨b1, o1 + a * 4 + 3, none⟩) hb1w).trans m13; go_simp; try with_reducible rfl)
     try simp only [pu0, puN, pu1, pu2, pu3]
     refine wpAnyH_ready (rs := [13]) (by kernel_rfl) (by simp) ?_
     refine (AllReadyH.cons (o := _) rfl (fun K hK => ?_) AllReadyH.nil)
     go_simp
     refine (Right64_any k1 d1 n1 s1 _).mono ?_
     rintro e P39 ⟨rfl, hb39⟩
     have T39 := T0.trans (hb39.mono T0.size)
     try go_wp2_with fail
     refine hK.out _ _ T39 (fun hS39 => ?_)
     clear hK K
     try simp only [pu0, puN, pu1, pu2, pu3]
     refine wpAnyH_ready (rs := [18]) (by kernel_rfl) (by simp) ?_
     refine (AllReadyH.cons (o := _) rfl (fun K hK => ?_) AllReadyH.nil)
     go_simp
     refine (RRight64_any k1 d1 n1 s1 _ hzs).mono ?_
     rintro e P40 ⟨rfl, hb40⟩
     have T40 := T39.trans (hb40.mono T39.size)
     try go_wp2_with fail
     refine hK.out _ _ T40 (fun hS40 => ?_)
     clear hK K
     try simp only [pu0, puN, pu1, pu2, pu3]
     refine wpAnyH_take (i := 19) (oi := ({ dst := some 88, op := .binOp .neq 4 (.tmp 82) (.tmp 87) 4, type := 4, pos := "law.go:76", after := #[⟨13, .data⟩, ⟨18, .data⟩, ⟨8, .guard⟩], guard := some (8, false) } : Oper)) (v := ?av41) rfl (by kernel_rfl) (by kernel_rfl) (by kernel_rfl) (fun _ _ _ h => h) (Or.inl ⟨by rfl, ?ay41⟩) T40 ?_
     case ay41 => (intro V hSw; go_simp; try with_reducible rfl)
     try simp only [pu0, puN, pu1, pu2, pu3]
     refine wpAnyH_take (i := 20) (oi := ({ dst := some 89, op := .pick (.tmp 77) (.const (.bool true)) (.tmp 88), type := 4, pos := "law.go:76", after := #[⟨8, .data⟩, ⟨19, .data⟩], guard := none } : Oper)) (v := ?av42) rfl (by kernel_rfl) (by kernel_rfl) (by kernel_rfl) (fun _ _ _ h => h) (Or.inl ⟨by rfl, ?ay42⟩) T40 ?_
     case ay42 => (intro V hSw; go_simp; try with_reducible rfl)
     try simp only [pu0, puN, pu1, pu2, pu3]
     refine wpAnyH_done (by kernel_rfl) ?_ _
     try go_wp2
     go_meet
     case rel => exact ⟨by first | rfl | simp, T40⟩
    obtain ⟨rfl, hb⟩ := hcut
    clear m10 m11 m12 m13 hb1w z1 z2 z3 hz hq1 SK
    obtain ⟨V4, hV⟩ : ∃ x, x = wc := ⟨_, rfl⟩
    subst hV
    replace X := Lib.hid (X.out.trans (hb.mono X.out.size))
    replace Za := Lib.hid (Za.out.trans (hb.mono Za.out.size))
    clear hb
    go_wp2
    go_loopg [10] N (fun g iv wx => ∃ i : Nat, iv = .int .i64 i ∧ i + g = N ∧ Below V4.heap.size V4 wx)
    case atStart => exact ⟨0, rfl, by omega, Below.refl _ _⟩
    case round => as_aux_lemma =>
     obtain ⟨c, rfl, hcg, hb⟩ := hrel
     obtain ⟨gc, hgn⟩ : ∃ g, g = gk := ⟨_, rfl⟩
     subst hgn
     have Zc := Lib.hid (Below.refl V4.heap.size V4)
     obtain ⟨V5, hV⟩ : ∃ x, x = wr := ⟨_, rfl⟩
     subst hV
     replace X := Lib.hid (X.out.trans (hb.mono X.out.size))
     replace Za := Lib.hid (Za.out.trans (hb.mono Za.out.size))
     replace Zc := Lib.hid (Zc.out.trans (hb.mono Zc.out.size))
     clear hb
     go_upto_region 20 with fail
     go_cut [105] (fun va wx => va = .bool (decide (c < N)) ∧ wx = V5)
     case first =>
      by_cases hq : c < N
      ·have hz1 : c < ts.length := by omega
       have hz2 : c < 10 := by omega
       have e1 : decide ((c : Int) < (ts.length : Int)) = true := decide_eq_true (by omega)
       have e2 : decide ((c : Int) < 10) = true := decide_eq_true (by omega)
       have DI := Lib.hid (decide_eq_true hq)
       clear hq
       go_wp2
       go_meet
       case rel => exact ⟨by rw [DI.out], rfl⟩
      ·have DI := Lib.hid (decide_eq_false hq)
       by_cases hx : c < ts.length
       ·have hx2 : 10 ≤ c := hN3 c (by omega) hx
        have e1 : decide ((c : Int) < (ts.length : Int)) = true := decide_eq_true (by omega)
        have e2 : decide ((c : Int) < 10) = false := decide_eq_false (by omega)
        clear hq
        go_wp2
        go_meet
        case rel => exact ⟨by rw [DI.out], rfl⟩
       ·have hx2 : ts.length ≤ c := by omega
        have e1 : decide ((c : Int) < (ts.length : Int)) = false := decide_eq_false (by omega)
        clear hq
        go_wp2
        go_meet
        case rel => exact ⟨by rw [DI.out], rfl⟩
     obtain ⟨rfl, hwc⟩ := hcut
     rw [hwc]
     clear hwc wc
     by_cases hcq : c < N
     ·have hgxc : gc - 1 < gc := by omega
      rw [decide_eq_true hcq]
      have hinc : c < ts.length := by omega
      have ec1 : decide ((c : Int) < (ts.length : Int)) = true := decide_eq_true (by omega)
      have ec2 : decide ((c : Int) < 10) = true := decide_eq_true (by omega)
      have wc : IntKind.i64.wrap ((c : Int) + 1) = ((c + 1 : Nat) : Int) := by rw [IntWalk.i64_in _ (by omega)]; omega
      obtain ⟨⟨dy, sy⟩, hty⟩ : ∃ t, ts[c]? = some t := ⟨_, List.getElem?_eq_getElem (by omega)⟩
      obtain ⟨by_, oy, e0, hby, y0, y1⟩ := YRow.at_ HY.out hty
      simp only at y0 y1
      have CY0 := Lib.hid y0
      have CY1 := Lib.hid y1
      clear y0 y1
      subst e0
      have hzy : sy.size ≤ 1000000 := Nat.le_trans (SN.out c _ hcq hty) (by decide)
      clear hty
      go_upto_region 22 with fail
      go_cut [128] (fun va wx => va = .bool false ∧ Below V5.heap.size V5 wx)
      case first => as_aux_lemma =>
       have my0 := (X.out.cell (p := ⟨by_, oy + c * 2, none⟩) hby).trans CY0.out
       have my1 := (X.out.cell (p := ⟨by_, oy + c * 2 + 1, none⟩) hby).trans CY1.out
       have hbyw : by_ < V5.heap.size := Nat.lt_of_lt_of_le hby X.out.size
       have m10 := (X.out.cell (p := ⟨b1, o1 + a * 4, none⟩) hb1).trans C10.out
       have m11 := (X.out.cell (p := ⟨b1, o1 + a * 4 + 1, none⟩) hb1).trans C11.out
       have m12 := (X.out.cell (p := ⟨b1, o1 + a * 4 + 2, none⟩) hb1).trans C12.out
       have m13 := (X.out.cell (p := ⟨b1, o1 + a * 4 + 3, none⟩) hb1).trans C13.out
       have hb1w : b1 < V5.heap.size := Nat.lt_of_lt_of_le hb1 X.out.size
       have T0 := (Below.refl V5.heap.size V5).drew
       refine wp_region_held_drew (S := fun W => Below V5.heap.size V5 W) (by kernel_rfl) T0 (fun hS0 => ?_)
       refine wpAnyH_take (i := 0) (oi := ({ dst := some 108, op := .move (.tmp 6), type := 32, pos := "law.go:80", after := #[], guard := none } : Oper)) (v := ?av43) rfl (by kernel_rfl) (by kernel_rfl) (by kernel_rfl) (fun _ _ _ h => h) (Or.inl ⟨by rfl, ?ay43⟩) T0 ?_
       case ay43 => (intro V hSw; go_simp; try with_reducible rfl)
       try simp only [pu0, puN, pu1, pu2, pu3]
       refine wpAnyH_take (i := 1) (oi := ({ dst := some 109, op := .move (.tmp 0), type := 60, pos := "law.go:80", after := #[], guard := none } : Oper)) (v := ?av44) rfl (by kernel_rfl) (by kernel_rfl) (by kernel_rfl) (fun _ _ _ h => h) (Or.inl ⟨by rfl, ?ay44⟩) T0 ?_
       case ay44 => (intro V hSw; go_simp; try with_reducible rfl)
       try simp only [pu0, puN, pu1, pu2, pu3]
       refine wpAnyH_take (i := 2) (oi := ({ dst := some 110, op := .move (.tmp 9), type := 3, pos := "law.go:80", after := #[], guard := none } : Oper)) (v := ?av45) rfl (by kernel_rfl) (by kernel_rfl) (by kernel_rfl) (fun _ _ _ h => h) (Or.inl ⟨by rfl, ?ay45⟩) T0 ?_
       case ay45 => (intro V hSw; go_simp; try with_reducible rfl)
       try simp only [pu0, puN, pu1, pu2, pu3]
       refine wpAnyH_take (i := 3) (oi := ({ dst := some 111, op := .indexAddr 60 (.tmp 109) (.tmp 110), type := 0, pos := "law.go:80", after := #[⟨1, .data⟩, ⟨2, .data⟩], guard := none } : Oper)) (v := ?av46) rfl (by kernel_rfl) (by kernel_rfl) (by kernel_rfl) (fun _ _ _ h => h) (Or.inl ⟨by rfl, ?ay46⟩) T0 ?_
       case ay46 => (intro V hSw; go_simp; try with_reducible rfl)
       try simp only [pu0, puN, pu1, pu2, pu3]
       refine wpAnyH_take (i := 4) (oi := ({ dst := some 112, op := .load 64 (.tmp 111), type := 64, pos := "law.go:80", after := #[⟨3, .data⟩], guard := none } : Oper)) (v := ?av47) rfl (by kernel_rfl) (by kernel_rfl) (by kernel_rfl) (fun _ _ _ h => h) (Or.inl ⟨by rfl, ?ay47⟩) T0 ?_
       case ay47 => (intro V hSw; have c10 := (hSw.cell (p := ⟨b1, o1 + a * 4, none⟩) hb1w).trans m10; have c11 := (hSw.cell (p := ⟨b1, o1 + a * 4 + 1, none⟩) hb1w).trans m11; have c12 := (hSw.cell (p := ⟨b1, o1 + a * 4 + 2, none⟩) hb1w).trans m12; have c13 := (hSw.cell (p := ⟨b1, o1 + a * 4 + 3, none⟩) hb1w).trans m13; go_simp; try with_reducible rfl)
       try simp only [pu0, puN, pu1, pu2, pu3]
       refine wpAnyH_take (i := 5) (oi := ({ dst := some 113, op := .move (.tmp 1), type := 39, pos := "law.go:80", after := #[], guard := none } : Oper)) (v := ?av48) rfl (by kernel_rfl) (by kernel_rfl) (by kernel_rfl) (fun _ _ _ h => h) (Or.inl ⟨by rfl, ?ay48⟩) T0 ?_
       case ay48 => (intro V hSw; go_simp; try with_reducible rfl)
       try simp only [pu0, puN, pu1, pu2, pu3]
       refine wpAnyH_take (i := 6) (oi := ({ dst := some 114, op := .move (.tmp 10), type := 3, pos := "law.go:80", after := #[], guard := none } : Oper)) (v := ?av49) rfl (by kernel_rfl) (by kernel_rfl) (by kernel_rfl) (fun _ _ _ h => h) (Or.inl ⟨by rfl, ?ay49⟩) T0 ?_
       case ay49 => (intro V hSw; go_simp; try with_reducible rfl)
       try simp only [pu0, puN, pu1, pu2, pu3]
       refine wpAnyH_take (i := 7) (oi := ({ dst := some 115, op := .indexAddr 39 (.tmp 113) (.tmp 114), type := 0, pos := "law.go:80", after := #[⟨5, .data⟩, ⟨6, .data⟩], guard := none } : Oper)) (v := ?av50) rfl (by kernel_rfl) (by kernel_rfl) (by kernel_rfl) (fun _ _ _ h => h) (Or.inl ⟨by rfl, ?ay50⟩) T0 ?_
       case ay50 => (intro V hSw; go_simp; try with_reducible rfl)
       try simp only [pu0, puN, pu1, pu2, pu3]
       refine wpAnyH_take (i := 8) (oi := ({ dst := some 116, op := .load 31 (.tmp 115), type := 31, pos := "law.go:80", after := #[⟨7, .data⟩], guard := none } : Oper)) (v := ?av51) rfl (by kernel_rfl) (by kernel_rfl) (by kernel_rfl) (fun _ _ _ h => h) (Or.inl ⟨by rfl, ?ay51⟩) T0 ?_
       case ay51 => (intro V hSw; have cy0 := (hSw.cell (p := ⟨by_, oy + c * 2, none⟩) hbyw).trans my0; have cy1 := (hSw.cell (p := ⟨by_, oy + c * 2 + 1, none⟩) hbyw).trans my1; go_simp; try with_reducible rfl)
       try simp only [pu0, puN, pu1, pu2, pu3]
       refine wpAnyH_take (i := 10) (oi := ({ dst := some 118, op := .move (.tmp 7), type := 36, pos := "law.go:80", after := #[], guard := none } : Oper)) (v := ?av52) rfl (by kernel_rfl) (by kernel_rfl) (by kernel_rfl) (fun _ _ _ h => h) (Or.inl ⟨by rfl, ?ay52⟩) T0 ?_
       case ay52 => (intro V hSw; go_simp; try with_reducible rfl)
       try simp only [pu0, puN, pu1, pu2, pu3]
       refine wpAnyH_take (i := 11) (oi := ({ dst := some 119, op := .move (.tmp 0), type := 60, pos := "law.go:80", after := #[], guard := none } : Oper)) (v := ?av53) rfl (by kernel_rfl) (by kernel_rfl) (by kernel_rfl) (fun _ _ _ h => h) (Or.inl ⟨by rfl, ?ay53⟩) T0 ?_
       case ay53 => (intro V hSw; go_simp; try with_reducible rfl)
       try simp only [pu0, puN, pu1, pu2, pu3]
       refine wpAnyH_take (i := 12) (oi := ({ dst := some 120, op := .move (.tmp 9), type := 3, pos := "law.go:80", after := #[], guard := none } : Oper)) (v := ?av54) rfl (by kernel_rfl) (by kernel_rfl) (by kernel_rfl) (fun _ _ _ h => h) (Or.inl ⟨by rfl, ?ay54⟩) T0 ?_
       case ay54 => (intro V hSw; go_simp; try with_reducible rfl)
       try simp only [pu0, puN, pu1, pu2, pu3]
       refine wpAnyH_take (i := 13) (oi := ({ dst := some 121, op := .indexAddr 60 (.tmp 119) (.tmp 120), type := 0, pos := "law.go:80", after := #[⟨11, .data⟩, ⟨12, .data⟩], guard := none } : Oper)) (v := ?av55) rfl (by kernel_rfl) (by kernel_rfl) (by kernel_rfl) (fun _ _ _ h => h) (Or.inl ⟨by rfl, ?ay55⟩) T0 ?_
       case ay55 => (intro V hSw; go_simp; try with_reducible rfl)
       try simp only [pu0, puN, pu1, pu2, pu3]
       refine wpAnyH_take (i := 14) (oi := ({ dst := some 122, op := .load 64 (.tmp 121), type := 64, pos := "law.go:80", after := #[⟨13, .data⟩], guard := none } : Oper)) (v := ?av56) rfl (by kernel_rfl) (by kernel_rfl) (by kernel_rfl) (fun _ _ _ h => h) (Or.inl ⟨by rfl, ?ay56⟩) T0 ?_
       case ay56 => (intro V hSw; have c10 := (hSw.cell (p := ⟨b1, o1 + a * 4, none⟩) hb1w).trans m10; have c11 := (hSw.cell (p := ⟨b1, o1 + a * 4 + 1, none⟩) hb1w).trans m11; have c12 := (hSw.cell (p := ⟨b1, o1 + a * 4 + 2, none⟩) hb1w).trans m12; have c13 := (hSw.cell (p := ⟨b1, o1 + a * 4 + 3, none⟩) hb1w).trans m13; go_simp; try with_reducible rfl)
       try simp only [pu0, puN, pu1, pu2, pu3]
       refine wpAnyH_take (i := 15) (oi := ({ dst := some 123, op := .move (.tmp 1), type := 39, pos := "law.go:80", after := #[], guard := none } : Oper)) (v := ?av57) rfl (by kernel_rfl) (by kernel_rfl) (by kernel_rfl) (fun _ _ _ h => h) (Or.inl ⟨by rfl, ?ay57⟩) T0 ?_
       case ay57 => (intro V hSw; go_simp; try with_reducible rfl)
       try simp only [pu0, puN, pu1, pu2, pu3]
       refine wpAnyH_take (i := 16) (oi := ({ dst := some 124, op := .move (.tmp 10), type := 3, pos := "law.go:80", after := #[], guard := none } : Oper)) (v := ?av58) rfl (by kernel_rfl) (by kernel_rfl) (by kernel_rfl) (fun _ _ _ h => h) (Or.inl ⟨by rfl, ?ay58⟩) T0 ?_
       case ay58 => (intro V hSw; go_simp; try with_reducible rfl)
       try simp only [pu0, puN, pu1, pu2, pu3]
       refine wpAnyH_take (i := 17) (oi := ({ dst := some 125, op := .indexAddr 39 (.tmp 123) (.tmp 124), type := 0, pos := "law.go:80", after := #[⟨15, .data⟩, ⟨16, .data⟩], guard := none } : Oper)) (v := ?av59) rfl (by kernel_rfl) (by kernel_rfl) (by kernel_rfl) (fun _ _ _ h => h) (Or.inl ⟨by rfl, ?ay59⟩) T0 ?_
       case ay59 => (intro V hSw; go_simp; try with_reducible rfl)
       try simp only [pu0, puN, pu1, pu2, pu3]
       refine wpAnyH_take (i := 18) (oi := ({ dst := some 126, op := .load 31 (.tmp 125), type := 31, pos := "law.go:80", after := #[⟨17, .data⟩], guard := none } : Oper)) (v := ?av60) rfl (by kernel_rfl) (by kernel_rfl) (by kernel_rfl) (fun _ _ _ h => h) (Or.inl ⟨by rfl, ?ay60⟩) T0 ?_
       case ay60 => (intro V hSw; have cy0 := (hSw.cell (p := ⟨by_, oy + c * 2, none⟩) hbyw).trans my0; have cy1 := (hSw.cell (p := ⟨by_, oy + c * 2 + 1, none⟩) hbyw).trans my1; go_simp; try with_reducible rfl)
       try simp only [pu0, puN, pu1, pu2, pu3]
       refine wpAnyH_ready (rs := [9]) (by kernel_rfl) (by simp) ?_
       refine (AllReadyH.cons (o := _) rfl (fun K hK => ?_) AllReadyH.nil)
       go_simp
       refine (Fits_any (HT.out.below ((X.out.trans (T0.mono X.out.size)).mono HT.out.hB)) hzs hzy).mono ?_
       rintro e P61 ⟨r, rfl, hr, hb61⟩
       have T61 := T0.trans (hb61.mono T0.size)
       try go_wp2_with fail
       refine hK.out _ _ T61 (fun hS61 => ?_)
       clear hK K
       try simp only [pu0, puN, pu1, pu2, pu3]
       refine wpAnyH_ready (rs := [19]) (by kernel_rfl) (by simp) ?_
       refine (AllReadyH.cons (o := _) rfl (fun K hK => ?_) AllReadyH.nil)
       go_simp
       refine ((RFits_any (HU.out.link (X.out.trans (T61.mono X.out.size))) good7 names7_ok hzs hzy).mono (fun e w' h => BAns.lit h hr)).mono ?_
       rintro e P62 ⟨rfl, hb62⟩
       have T62 := T61.trans (hb62.mono T61.size)
       try go_wp2_with fail
       refine hK.out _ _ T62 (fun hS62 => ?_)
       clear hK K
       try simp only [pu0, puN, pu1, pu2, pu3]
       refine wpAnyH_take (i := 20) (oi := ({ dst := some 128, op := .binOp .neq 4 (.tmp 117) (.tmp 127) 4, type := 4, pos := "law.go:80", after := #[⟨9, .data⟩, ⟨19, .data⟩], guard := none } : Oper)) (v := ?av63) rfl (by kernel_rfl) (by kernel_rfl) (by kernel_rfl) (fun _ _ _ h => h) (Or.inl ⟨by rfl, ?ay63⟩) T62 ?_
       case ay63 => (intro V hSw; go_simp; try with_reducible rfl)
       try simp only [pu0, puN, pu1, pu2, pu3]
       refine wpAnyH_done (by kernel_rfl) ?_ _
       try go_wp2
       go_meet
       case rel => exact ⟨by first | rfl | simp, T62⟩
      obtain ⟨rfl, hb⟩ := hcut
      obtain ⟨V6, hV⟩ : ∃ x, x = wc := ⟨_, rfl⟩
      subst hV
      replace X := Lib.hid (X.out.trans (hb.mono X.out.size))
      replace Za := Lib.hid (Za.out.trans (hb.mono Za.out.size))
      replace Zc := Lib.hid (Zc.out.trans (hb.mono Zc.out.size))
      clear hb
      go_wp2
      go_roundg (gc - 1)
      case measure => exact hgxc
      case rel => exact ⟨c + 1, by go_num, by omega, Zc.out⟩
     ·rw [decide_eq_false hcq]
      clear hcq
      go_wp2
      go_loopg [11] (a + 1) (fun g iv wx => ∃ i : Nat, iv = .int .i64 i ∧ i + g = (a + 1) ∧ Below V5.heap.size V5 wx)
      case atStart => exact ⟨0, rfl, by omega, Below.refl _ _⟩
      case round => as_aux_lemma =>
       obtain ⟨j, rfl, hjg, hb⟩ := hrel
       obtain ⟨gj, hgn⟩ : ∃ g, g = gk := ⟨_, rfl⟩
       subst hgn
       have Zj := Lib.hid (Below.refl V5.heap.size V5)
       obtain ⟨V7, hV⟩ : ∃ x, x = wr := ⟨_, rfl⟩
       subst hV
       replace X := Lib.hid (X.out.trans (hb.mono X.out.size))
       replace Za := Lib.hid (Za.out.trans (hb.mono Za.out.size))
       replace Zc := Lib.hid (Zc.out.trans (hb.mono Zc.out.size))
       replace Zj := Lib.hid (Zj.out.trans (hb.mono Zj.out.size))
       clear hb
       by_cases hjq : j < a + 1
       ·have hgxj : gj - 1 < gj := by omega
        have ej1 : decide ((j : Int) ≤ (a : Int)) = true := decide_eq_true (by omega)
        have wj : IntKind.i64.wrap ((j : Int) + 1) = ((j + 1 : Nat) : Int) := by rw [IntWalk.i64_in _ (by omega)]; omega
        have hinj : j < l.length := by omega
        obtain ⟨⟨k2, d2, s2, n2⟩, hq2⟩ : ∃ q, l[j]? = some q := ⟨_, List.getElem?_eq_getElem (by omega)⟩
        obtain ⟨b2, o2, e0, hb2, x0, x1, x2, x3⟩ := KRow.at_ HK.out hq2
        simp only at x0 x1 x2 x3
        injection e0 with e0
        injection e0 with e0 e1
        subst e0
        subst e1
        have C20 := Lib.hid x0
        have C21 := Lib.hid x1
        have C22 := Lib.hid x2
        have C23 := Lib.hid x3
        have hz2 : s2.size ≤ 1000000 := Nat.le_trans (SK2.out j _ hjq hq2) (by decide)
        clear x0 x1 x2 x3 hq2 hb2
        go_upto_region 27 with fail
        go_cut [12] (fun va wx => ∃ y, va = .pointer (some ⟨y, 0, none⟩) ∧ wx.heap[y]? = some (.cells #[.int .i64 k1, .int .i64 d1, .string s1, .int .i64 n1] 64 (0, 0)) ∧ Below V7.heap.size V7 wx)
        case first => as_aux_lemma =>
         have m10 := (X.out.cell (p := ⟨b1, o1 + a * 4, none⟩) hb1).trans C10.out
         have m11 := (X.out.cell (p := ⟨b1, o1 + a * 4 + 1, none⟩) hb1).trans C11.out
         have m12 := (X.out.cell (p := ⟨b1, o1 + a * 4 + 2, none⟩) hb1).trans C12.out
         have m13 := (X.out.cell (p := ⟨b1, o1 + a * 4 + 3, none⟩) hb1).trans C13.out
         have hb1w : b1 < V7.heap.size := Nat.lt_of_lt_of_le hb1 X.out.size
         go_wp2
         go_meet
         case rel => exact ⟨_, rfl, hheap_new _ _, (Below.refl _ _).alloc (Nat.le_refl _) _⟩
        obtain ⟨y1, rfl, hy, hb⟩ := hcut
        obtain ⟨V8, hV⟩ : ∃ x, x = wc := ⟨_, rfl⟩
        subst hV
        replace X := Lib.hid (X.out.trans (hb.mono X.out.size))
        replace Za := Lib.hid (Za.out.trans (hb.mono Za.out.size))
        replace Zc := Lib.hid (Zc.out.trans (hb.mono Zc.out.size))
        replace Zj := Lib.hid (Zj.out.trans (hb.mono Zj.out.size))
        have H1 := Lib.hid hy
        clear hb hy
        go_upto_region 28 with fail
        go_cut [13] (fun va wx => ∃ y, va = .pointer (some ⟨y, 0, none⟩) ∧ wx.heap[y]? = some (.cells #[.int .i64 k2, .int .i64 d2, .string s2, .int .i64 n2] 64 (0, 0)) ∧ Below V8.heap.size V8 wx)
        case first => as_aux_lemma =>
         have m20 := (X.out.cell (p := ⟨b1, o1 + j * 4, none⟩) hb1).trans C20.out
         have m21 := (X.out.cell (p := ⟨b1, o1 + j * 4 + 1, none⟩) hb1).trans C21.out
         have m22 := (X.out.cell (p := ⟨b1, o1 + j * 4 + 2, none⟩) hb1).trans C22.out
         have m23 := (X.out.cell (p := ⟨b1, o1 + j * 4 + 3, none⟩) hb1).trans C23.out
         have hb1w : b1 < V8.heap.size := Nat.lt_of_lt_of_le hb1 X.out.size
         go_wp2
         go_meet
         case rel => exact ⟨_, rfl, hheap_new _ _, (Below.refl _ _).alloc (Nat.le_refl _) _⟩
        obtain ⟨y2, rfl, hy, hb⟩ := hcut
        obtain ⟨V9, hV⟩ : ∃ x, x = wc := ⟨_, rfl⟩
        subst hV
        replace X := Lib.hid (X.out.trans (hb.mono X.out.size))
        replace Za := Lib.hid (Za.out.trans (hb.mono Za.out.size))
        replace Zc := Lib.hid (Zc.out.trans (hb.mono Zc.out.size))
        replace Zj := Lib.hid (Zj.out.trans (hb.mono Zj.out.size))
        replace H1 := Lib.hid ((hb.block _ (lt_of_block H1.out)).trans H1.out)
        have H2 := Lib.hid hy
        clear hb hy
        go_upto_region 29 with fail
        go_cut [183] (fun va wx => va = .bool false ∧ Below V9.heap.size V9 wx)
        case first => as_aux_lemma =>
         have m1 := H1.out
         have m10 := kcells_of m1 0
         have m11 := kcells_of m1 1
         have m12 := kcells_of m1 2
         have m13 := kcells_of m1 3
         simp only [List.getElem?_toArray, List.getElem?_cons_succ, List.getElem?_cons_zero] at m10 m11 m12 m13
         have hl1 := lt_of_block m1
         clear m1
         have m2 := H2.out
         have m20 := kcells_of m2 0
         have m21 := kcells_of m2 1
         have m22 := kcells_of m2 2
         have m23 := kcells_of m2 3
         simp only [List.getElem?_toArray, List.getElem?_cons_succ, List.getElem?_cons_zero] at m20 m21 m22 m23
         have hl2 := lt_of_block m2
         clear m2
         have T0 := (Below.refl V9.heap.size V9).drew
         refine wp_region_held_drew (S := fun W => Below V9.heap.size V9 W) (by kernel_rfl) T0 (fun hS0 => ?_)
         refine wpAnyH_take (i := 0) (oi := ({ dst := some 142, op := .move (.tmp 6), type := 32, pos := "law.go:87", after := #[], guard := none } : Oper)) (v := ?av64) rfl (by kernel_rfl) (by kernel_rfl) (by kernel_rfl) (fun _ _ _ h => h) (Or.inl ⟨by rfl, ?ay64⟩) T0 ?_
         case ay64 => (intro V hSw; go_simp; try with_reducible rfl)
         try simp only [pu0, puN, pu1, pu2, pu3]
         refine wpAnyH_take (i := 1) (oi := ({ dst := some 143, op := .load 64 (.tmp 12), type := 64, pos := "law.go:87", after := #[], guard := none } : Oper)) (v := ?av65) rfl (by kernel_rfl) (by kernel_rfl) (by kernel_rfl) (fun _ _ _ h => h) (Or.inl ⟨by rfl, ?ay65⟩) T0 ?_
         case ay65 => (intro V hSw; have c10 := (hSw.cell (p := ⟨y1, 0, none⟩) hl1).trans m10; have c11 := (hSw.cell (p := ⟨y1, 1, none⟩) hl1).trans m11; have c12 := (hSw.cell (p := ⟨y1, 2, none⟩) hl1).trans m12; have c13 := (hSw.cell (p := ⟨y1, 3, none⟩) hl1).trans m13; go_simp; try with_reducible rfl)
         try simp only [pu0, puN, pu1, pu2, pu3]
         refine wpAnyH_take (i := 2) (oi := ({ dst := some 144, op := .load 64 (.tmp 13), type := 64, pos := "law.go:87", after := #[], guard := none } : Oper)) (v := ?av66) rfl (by kernel_rfl) (by kernel_rfl) (by kernel_rfl) (fun _ _ _ h => h) (Or.inl ⟨by rfl, ?ay66⟩) T0 ?_
         case ay66 => (intro V hSw; have c20 := (hSw.cell (p := ⟨y2, 0, none⟩) hl2).trans m20; have c21 := (hSw.cell (p := ⟨y2, 1, none⟩) hl2).trans m21; have c22 := (hSw.cell (p := ⟨y2, 2, none⟩) hl2).trans m22; have c23 := (hSw.cell (p := ⟨y2, 3, none⟩) hl2).trans m23; go_simp; try with_reducible rfl)
         try simp only [pu0, puN, pu1, pu2, pu3]
         refine wpAnyH_take (i := 4) (oi := ({ dst := some 146, op := .move (.tmp 7), type := 36, pos := "law.go:87", after := #[], guard := none } : Oper)) (v := ?av67) rfl (by kernel_rfl) (by kernel_rfl) (by kernel_rfl) (fun _ _ _ h => h) (Or.inl ⟨by rfl, ?ay67⟩) T0 ?_
         case ay67 => (intro V hSw; go_simp; try with_reducible rfl)
         try simp only [pu0, puN, pu1, pu2, pu3]
         refine wpAnyH_take (i := 5) (oi := ({ dst := some 147, op := .load 64 (.tmp 12), type := 64, pos := "law.go:87", after := #[], guard := none } : Oper)) (v := ?av68) rfl (by kernel_rfl) (by kernel_rfl) (by kernel_rfl) (fun _ _ _ h => h) (Or.inl ⟨by rfl, ?ay68⟩) T0 ?_
         case ay68 => (intro V hSw; have c10 := (hSw.cell (p := ⟨y1, 0, none⟩) hl1).trans m10; have c11 := (hSw.cell (p := ⟨y1, 1, none⟩) hl1).trans m11; have c12 := (hSw.cell (p := ⟨y1, 2, none⟩) hl1).trans m12; have c13 := (hSw.cell (p := ⟨y1, 3, none⟩) hl1).trans m13; go_simp; try with_reducible rfl)
         try simp only [pu0, puN, pu1, pu2, pu3]
         refine wpAnyH_take (i := 6) (oi := ({ dst := some 148, op := .load 64 (.tmp 13), type := 64, pos := "law.go:87", after := #[], guard := none } : Oper)) (v := ?av69) rfl (by kernel_rfl) (by kernel_rfl) (by kernel_rfl) (fun _ _ _ h => h) (Or.inl ⟨by rfl, ?ay69⟩) T0 ?_
         case ay69 => (intro V hSw; have c20 := (hSw.cell (p := ⟨y2, 0, none⟩) hl2).trans m20; have c21 := (hSw.cell (p := ⟨y2, 1, none⟩) hl2).trans m21; have c22 := (hSw.cell (p := ⟨y2, 2, none⟩) hl2).trans m22; have c23 := (hSw.cell (p := ⟨y2, 3, none⟩) hl2).trans m23; go_simp; try with_reducible rfl)
         try simp only [pu0, puN, pu1, pu2, pu3]
         refine wpAnyH_ready (rs := [3]) (by kernel_rfl) (by simp) ?_
         refine (AllReadyH.cons (o := _) rfl (fun K hK => ?_) AllReadyH.nil)
         go_simp
         refine (Join_any (HT.out.below ((X.out.trans (T0.mono X.out.size)).mono HT.out.hB)) hzs hz2).mono ?_
         rintro e P70 ⟨k5, d5, n5, s5, rfl, hE5, hs5, hb70⟩
         have T70 := T0.trans (hb70.mono T0.size)
         try go_wp2_with fail
         refine hK.out _ _ T70 (fun hS70 => ?_)
         clear hK K
         try simp only [pu0, puN, pu1, pu2, pu3]
         refine wpAnyH_ready (rs := [7]) (by kernel_rfl) (by simp) ?_
         refine (AllReadyH.cons (o := _) rfl (fun K hK => ?_) AllReadyH.nil)
         go_simp
         refine ((RJoin_any (HU.out.link (X.out.trans (T70.mono X.out.size))) good7 names7_ok hzs hz2).mono (fun e w' h => KAns.lit h k5 d5 n5 s5 hE5.symm)).mono ?_
         rintro e P71 ⟨rfl, hb71⟩
         have T71 := T70.trans (hb71.mono T70.size)
         try go_wp2_with fail
         refine hK.out _ _ T71 (fun hS71 => ?_)
         clear hK K
         try simp only [pu0, puN, pu1, pu2, pu3]
         refine wpAnyH_take (i := 8) (oi := ({ dst := some 150, op := .binOp .neq 64 (.tmp 145) (.tmp 149) 64, type := 4, pos := "law.go:87", after := #[⟨3, .data⟩, ⟨7, .data⟩], guard := none } : Oper)) (v := ?av72) rfl (by kernel_rfl) (by kernel_rfl) (by kernel_rfl) (fun _ _ _ h => h) (Or.inl ⟨by rfl, ?ay72⟩) T71 ?_
         case ay72 => (intro V hSw; have qn := neq64_same k5 d5 n5 s5 V; go_simp; try with_reducible rfl)
         try simp only [pu0, puN, pu1, pu2, pu3]
         refine wpAnyH_take (i := 9) (oi := ({ dst := some 151, op := .move (.tmp 150), type := 4, pos := "law.go:87", after := #[⟨8, .data⟩, ⟨7, .chain⟩], guard := none } : Oper)) (v := ?av73) rfl (by kernel_rfl) (by kernel_rfl) (by kernel_rfl) (fun _ _ _ h => h) (Or.inl ⟨by rfl, ?ay73⟩) T71 ?_
         case ay73 => (intro V hSw; go_simp; try with_reducible rfl)
         try simp only [pu0, puN, pu1, pu2, pu3]
         refine wpAnyH_take (i := 10) (oi := ({ dst := some 152, op := .move (.tmp 6), type := 32, pos := "law.go:87", after := #[⟨9, .guard⟩], guard := some (9, false) } : Oper)) (v := ?av74) rfl (by kernel_rfl) (by kernel_rfl) (by kernel_rfl) (fun _ _ _ h => h) (Or.inl ⟨by rfl, ?ay74⟩) T71 ?_
         case ay74 => (intro V hSw; go_simp; try with_reducible rfl)
         try simp only [pu0, puN, pu1, pu2, pu3]
         refine wpAnyH_take (i := 11) (oi := ({ dst := some 153, op := .load 64 (.tmp 13), type := 64, pos := "law.go:87", after := #[⟨9, .guard⟩], guard := some (9, false) } : Oper)) (v := ?av75) rfl (by kernel_rfl) (by kernel_rfl) (by kernel_rfl) (fun _ _ _ h => h) (Or.inl ⟨by rfl, ?ay75⟩) T71 ?_
         case ay75 => (intro V hSw; have c20 := (hSw.cell (p := ⟨y2, 0, none⟩) hl2).trans m20; have c21 := (hSw.cell (p := ⟨y2, 1, none⟩) hl2).trans m21; have c22 := (hSw.cell (p := ⟨y2, 2, none⟩) hl2).trans m22; have c23 := (hSw.cell (p := ⟨y2, 3, none⟩) hl2).trans m23; go_simp; try with_reducible rfl)
         try simp only [pu0, puN, pu1, pu2, pu3]
         refine wpAnyH_take (i := 12) (oi := ({ dst := some 154, op := .load 64 (.tmp 12), type := 64, pos := "law.go:87", after := #[⟨9, .guard⟩], guard := some (9, false) } : Oper)) (v := ?av76) rfl (by kernel_rfl) (by kernel_rfl) (by kernel_rfl) (fun _ _ _ h => h) (Or.inl ⟨by rfl, ?ay76⟩) T71 ?_
         case ay76 => (intro V hSw; have c10 := (hSw.cell (p := ⟨y1, 0, none⟩) hl1).trans m10; have c11 := (hSw.cell (p := ⟨y1, 1, none⟩) hl1).trans m11; have c12 := (hSw.cell (p := ⟨y1, 2, none⟩) hl1).trans m12; have c13 := (hSw.cell (p := ⟨y1, 3, none⟩) hl1).trans m13; go_simp; try with_reducible rfl)
         try simp only [pu0, puN, pu1, pu2, pu3]
         refine wpAnyH_take (i := 14) (oi := ({ dst := some 156, op := .move (.tmp 7), type := 36, pos := "law.go:87", after := #[⟨9, .guard⟩], guard := some (9, false) } : Oper)) (v := ?av77) rfl (by kernel_rfl) (by kernel_rfl) (by kernel_rfl) (fun _ _ _ h => h) (Or.inl ⟨by rfl, ?ay77⟩) T71 ?_
         case ay77 => (intro V hSw; go_simp; try with_reducible rfl)
         try simp only [pu0, puN, pu1, pu2, pu3]
         refine wpAnyH_take (i := 15) (oi := ({ dst := some 157, op := .load 64 (.tmp 13), type := 64, pos := "law.go:87", after := #[⟨9, .guard⟩], guard := some (9, false) } : Oper)) (v := ?av78) rfl (by kernel_rfl) (by kernel_rfl) (by kernel_rfl) (fun _ _ _ h => h) (Or.inl ⟨by rfl, ?ay78⟩) T71 ?_
         case ay78 => (intro V hSw; have c20 := (hSw.cell (p := ⟨y2, 0, none⟩) hl2).trans m20; have c21 := (hSw.cell (p := ⟨y2, 1, none⟩) hl2).trans m21; have c22 := (hSw.cell (p := ⟨y2, 2, none⟩) hl2).trans m22; have c23 := (hSw.cell (p := ⟨y2, 3, none⟩) hl2).trans m23; go_simp; try with_reducible rfl)
         try simp only [pu0, puN, pu1, pu2, pu3]
         refine wpAnyH_take (i := 16) (oi := ({ dst := some 158, op := .load 64 (.tmp 12), type := 64, pos := "law.go:87", after := #[⟨9, .guard⟩], guard := some (9, false) } : Oper)) (v := ?av79) rfl (by kernel_rfl) (by kernel_rfl) (by kernel_rfl) (fun _ _ _ h => h) (Or.inl ⟨by rfl, ?ay79⟩) T71 ?_
         case ay79 => (intro V hSw; have c10 := (hSw.cell (p := ⟨y1, 0, none⟩) hl1).trans m10; have c11 := (hSw.cell (p := ⟨y1, 1, none⟩) hl1).trans m11; have c12 := (hSw.cell (p := ⟨y1, 2, none⟩) hl1).trans m12; have c13 := (hSw.cell (p := ⟨y1, 3, none⟩) hl1).trans m13; go_simp; try with_reducible rfl)
         try simp only [pu0, puN, pu1, pu2, pu3]
         refine wpAnyH_ready (rs := [13]) (by kernel_rfl) (by simp) ?_
         refine (AllReadyH.cons (o := _) rfl (fun K hK => ?_) AllReadyH.nil)
         go_simp
         refine (Join_any (HT.out.below ((X.out.trans (T71.mono X.out.size)).mono HT.out.hB)) hz2 hzs).mono ?_
         rintro e P80 ⟨k6, d6, n6, s6, rfl, hE6, hs6, hb80⟩
         have T80 := T71.trans (hb80.mono T71.size)
         try go_wp2_with fail
         refine hK.out _ _ T80 (fun hS80 => ?_)
         clear hK K
         try simp only [pu0, puN, pu1, pu2, pu3]
         refine wpAnyH_ready (rs := [17]) (by kernel_rfl) (by simp) ?_
         refine (AllReadyH.cons (o := _) rfl (fun K hK => ?_) AllReadyH.nil)
         go_simp
         refine ((RJoin_any (HU.out.link (X.out.trans (T80.mono X.out.size))) good7 names7_ok hz2 hzs).mono (fun e w' h => KAns.lit h k6 d6 n6 s6 hE6.symm)).mono ?_
         rintro e P81 ⟨rfl, hb81⟩
         have T81 := T80.trans (hb81.mono T80.size)
         try go_wp2_with fail
         refine hK.out _ _ T81 (fun hS81 => ?_)
         clear hK K
         try simp only [pu0, puN, pu1, pu2, pu3]
         refine wpAnyH_take (i := 18) (oi := ({ dst := some 160, op := .binOp .neq 64 (.tmp 155) (.tmp 159) 64, type := 4, pos := "law.go:87", after := #[⟨13, .data⟩, ⟨17, .data⟩, ⟨9, .guard⟩], guard := some (9, false) } : Oper)) (v := ?av82) rfl (by kernel_rfl) (by kernel_rfl) (by kernel_rfl) (fun _ _ _ h => h) (Or.inl ⟨by rfl, ?ay82⟩) T81 ?_
         case ay82 => (intro V hSw; have qn := neq64_same k6 d6 n6 s6 V; go_simp; try with_reducible rfl)
         try simp only [pu0, puN, pu1, pu2, pu3]
         refine wpAnyH_take (i := 19) (oi := ({ dst := some 161, op := .pick (.tmp 151) (.const (.bool true)) (.tmp 160), type := 4, pos := "law.go:87", after := #[⟨9, .data⟩, ⟨18, .data⟩], guard := none } : Oper)) (v := ?av83) rfl (by kernel_rfl) (by kernel_rfl) (by kernel_rfl) (fun _ _ _ h => h) (Or.inl ⟨by rfl, ?ay83⟩) T81 ?_
         case ay83 => (intro V hSw; go_simp; try with_reducible rfl)
         try simp only [pu0, puN, pu1, pu2, pu3]
         refine wpAnyH_take (i := 20) (oi := ({ dst := some 162, op := .move (.tmp 161), type := 4, pos := "law.go:87", after := #[⟨19, .data⟩, ⟨17, .chain⟩], guard := none } : Oper)) (v := ?av84) rfl (by kernel_rfl) (by kernel_rfl) (by kernel_rfl) (fun _ _ _ h => h) (Or.inl ⟨by rfl, ?ay84⟩) T81 ?_
         case ay84 => (intro V hSw; go_simp; try with_reducible rfl)
         try simp only [pu0, puN, pu1, pu2, pu3]
         refine wpAnyH_take (i := 21) (oi := ({ dst := some 163, op := .move (.tmp 6), type := 32, pos := "law.go:87", after := #[⟨20, .guard⟩], guard := some (20, false) } : Oper)) (v := ?av85) rfl (by kernel_rfl) (by kernel_rfl) (by kernel_rfl) (fun _ _ _ h => h) (Or.inl ⟨by rfl, ?ay85⟩) T81 ?_
         case ay85 => (intro V hSw; go_simp; try with_reducible rfl)
         try simp only [pu0, puN, pu1, pu2, pu3]
         refine wpAnyH_take (i := 22) (oi := ({ dst := some 164, op := .load 64 (.tmp 12), type := 64, pos := "law.go:87", after := #[⟨20, .guard⟩], guard := some (20, false) } : Oper)) (v := ?av86) rfl (by kernel_rfl) (by kernel_rfl) (by kernel_rfl) (fun _ _ _ h => h) (Or.inl ⟨by rfl, ?ay86⟩) T81 ?_
         case ay86 => (intro V hSw; have c10 := (hSw.cell (p := ⟨y1, 0, none⟩) hl1).trans m10; have c11 := (hSw.cell (p := ⟨y1, 1, none⟩) hl1).trans m11; have c12 := (hSw.cell (p := ⟨y1, 2, none⟩) hl1).trans m12; have c13 := (hSw.cell (p := ⟨y1, 3, none⟩) hl1).trans m13; go_simp; try with_reducible rfl)
         try simp only [pu0, puN, pu1, pu2, pu3]
         refine wpAnyH_take (i := 23) (oi := ({ dst := some 165, op := .load 64 (.tmp 13), type := 64, pos := "law.go:87", after := #[⟨20, .guard⟩], guard := some (20, false) } : Oper)) (v := ?av87) rfl (by kernel_rfl) (by kernel_rfl) (by kernel_rfl) (fun _ _ _ h => h) (Or.inl ⟨by rfl, ?ay87⟩) T81 ?_
         case ay87 => (intro V hSw; have c20 := (hSw.cell (p := ⟨y2, 0, none⟩) hl2).trans m20; have c21 := (hSw.cell (p := ⟨y2, 1, none⟩) hl2).trans m21; have c22 := (hSw.cell (p := ⟨y2, 2, none⟩) hl2).trans m22; have c23 := (hSw.cell (p := ⟨y2, 3, none⟩) hl2).trans m23; go_simp; try with_reducible rfl)
         try simp only [pu0, puN, pu1, pu2, pu3]
         refine wpAnyH_take (i := 25) (oi := ({ dst := some 167, op := .move (.tmp 7), type := 36, pos := "law.go:87", after := #[⟨20, .guard⟩], guard := some (20, false) } : Oper)) (v := ?av88) rfl (by kernel_rfl) (by kernel_rfl) (by kernel_rfl) (fun _ _ _ h => h) (Or.inl ⟨by rfl, ?ay88⟩) T81 ?_
         case ay88 => (intro V hSw; go_simp; try with_reducible rfl)
         try simp only [pu0, puN, pu1, pu2, pu3]
         refine wpAnyH_take (i := 26) (oi := ({ dst := some 168, op := .load 64 (.tmp 12), type := 64, pos := "law.go:87", after := #[⟨20, .guard⟩], guard := some (20, false) } : Oper)) (v := ?av89) rfl (by kernel_rfl) (by kernel_rfl) (by kernel_rfl) (fun _ _ _ h => h) (Or.inl ⟨by rfl, ?ay89⟩) T81 ?_
         case ay89 => (intro V hSw; have c10 := (hSw.cell (p := ⟨y1, 0, none⟩) hl1).trans m10; have c11 := (hSw.cell (p := ⟨y1, 1, none⟩) hl1).trans m11; have c12 := (hSw.cell (p := ⟨y1, 2, none⟩) hl1).trans m12; have c13 := (hSw.cell (p := ⟨y1, 3, none⟩) hl1).trans m13; go_simp; try with_reducible rfl)
         try simp only [pu0, puN, pu1, pu2, pu3]
         refine wpAnyH_take (i := 27) (oi := ({ dst := some 169, op := .load 64 (.tmp 13), type := 64, pos := "law.go:87", after := #[⟨20, .guard⟩], guard := some (20, false) } : Oper)) (v := ?av90) rfl (by kernel_rfl) (by kernel_rfl) (by kernel_rfl) (fun _ _ _ h => h) (Or.inl ⟨by rfl, ?ay90⟩) T81 ?_
         case ay90 => (intro V hSw; have c20 := (hSw.cell (p := ⟨y2, 0, none⟩) hl2).trans m20; have c21 := (hSw.cell (p := ⟨y2, 1, none⟩) hl2).trans m21; have c22 := (hSw.cell (p := ⟨y2, 2, none⟩) hl2).trans m22; have c23 := (hSw.cell (p := ⟨y2, 3, none⟩) hl2).trans m23; go_simp; try with_reducible rfl)
         try simp only [pu0, puN, pu1, pu2, pu3]
         refine wpAnyH_ready (rs := [24]) (by kernel_rfl) (by simp) ?_
         refine (AllReadyH.cons (o := _) rfl (fun K hK => ?_) AllReadyH.nil)
         go_simp
         refine (Below_any (HT.out.below ((X.out.trans (T81.mono X.out.size)).mono HT.out.hB)) hzs hz2).mono ?_
         rintro e P91 ⟨ra, rfl, hra, hb91⟩
         have T91 := T81.trans (hb91.mono T81.size)
         try go_wp2_with fail
         refine hK.out _ _ T91 (fun hS91 => ?_)
         clear hK K
         try simp only [pu0, puN, pu1, pu2, pu3]
         refine wpAnyH_ready (rs := [28]) (by kernel_rfl) (by simp) ?_
         refine (AllReadyH.cons (o := _) rfl (fun K hK => ?_) AllReadyH.nil)
         go_simp
         refine ((RBelow_any (HU.out.link (X.out.trans (T91.mono X.out.size))) good7 names7_ok hzs hz2).mono (fun e w' h => BAns.lit h hra)).mono ?_
         rintro e P92 ⟨rfl, hb92⟩
         have T92 := T91.trans (hb92.mono T91.size)
         try go_wp2_with fail
         refine hK.out _ _ T92 (fun hS92 => ?_)
         clear hK K
         try simp only [pu0, puN, pu1, pu2, pu3]
         refine wpAnyH_take (i := 29) (oi := ({ dst := some 171, op := .binOp .neq 4 (.tmp 166) (.tmp 170) 4, type := 4, pos := "law.go:87", after := #[⟨24, .data⟩, ⟨28, .data⟩, ⟨20, .guard⟩], guard := some (20, false) } : Oper)) (v := ?av93) rfl (by kernel_rfl) (by kernel_rfl) (by kernel_rfl) (fun _ _ _ h => h) (Or.inl ⟨by rfl, ?ay93⟩) T92 ?_
         case ay93 => (intro V hSw; have qn : (ra != ra) = false := (by simp); go_simp; try with_reducible rfl)
         try simp only [pu0, puN, pu1, pu2, pu3]
         refine wpAnyH_take (i := 30) (oi := ({ dst := some 172, op := .pick (.tmp 162) (.const (.bool true)) (.tmp 171), type := 4, pos := "law.go:87", after := #[⟨20, .data⟩, ⟨29, .data⟩], guard := none } : Oper)) (v := ?av94) rfl (by kernel_rfl) (by kernel_rfl) (by kernel_rfl) (fun _ _ _ h => h) (Or.inl ⟨by rfl, ?ay94⟩) T92 ?_
         case ay94 => (intro V hSw; go_simp; try with_reducible rfl)
         try simp only [pu0, puN, pu1, pu2, pu3]
         refine wpAnyH_take (i := 31) (oi := ({ dst := some 173, op := .move (.tmp 172), type := 4, pos := "law.go:87", after := #[⟨30, .data⟩, ⟨28, .chain⟩], guard := none } : Oper)) (v := ?av95) rfl (by kernel_rfl) (by kernel_rfl) (by kernel_rfl) (fun _ _ _ h => h) (Or.inl ⟨by rfl, ?ay95⟩) T92 ?_
         case ay95 => (intro V hSw; go_simp; try with_reducible rfl)
         try simp only [pu0, puN, pu1, pu2, pu3]
         refine wpAnyH_take (i := 32) (oi := ({ dst := some 174, op := .move (.tmp 6), type := 32, pos := "law.go:87", after := #[⟨31, .guard⟩], guard := some (31, false) } : Oper)) (v := ?av96) rfl (by kernel_rfl) (by kernel_rfl) (by kernel_rfl) (fun _ _ _ h => h) (Or.inl ⟨by rfl, ?ay96⟩) T92 ?_
         case ay96 => (intro V hSw; go_simp; try with_reducible rfl)
         try simp only [pu0, puN, pu1, pu2, pu3]
         refine wpAnyH_take (i := 33) (oi := ({ dst := some 175, op := .load 64 (.tmp 13), type := 64, pos := "law.go:87", after := #[⟨31, .guard⟩], guard := some (31, false) } : Oper)) (v := ?av97) rfl (by kernel_rfl) (by kernel_rfl) (by kernel_rfl) (fun _ _ _ h => h) (Or.inl ⟨by rfl, ?ay97⟩) T92 ?_
         case ay97 => (intro V hSw; have c20 := (hSw.cell (p := ⟨y2, 0, none⟩) hl2).trans m20; have c21 := (hSw.cell (p := ⟨y2, 1, none⟩) hl2).trans m21; have c22 := (hSw.cell (p := ⟨y2, 2, none⟩) hl2).trans m22; have c23 := (hSw.cell (p := ⟨y2, 3, none⟩) hl2).trans m23; go_simp; try with_reducible rfl)
         try simp only [pu0, puN, pu1, pu2, pu3]
         refine wpAnyH_take (i := 34) (oi := ({ dst := some 176, op := .load 64 (.tmp 12), type := 64, pos := "law.go:87", after := #[⟨31, .guard⟩], guard := some (31, false) } : Oper)) (v := ?av98) rfl (by kernel_rfl) (by kernel_rfl) (by kernel_rfl) (fun _ _ _ h => h) (Or.inl ⟨by rfl, ?ay98⟩) T92 ?_
         case ay98 => (intro V hSw; have c10 := (hSw.cell (p := ⟨y1, 0, none⟩) hl1).trans m10; have c11 := (hSw.cell (p := ⟨y1, 1, none⟩) hl1).trans m11; have c12 := (hSw.cell (p := ⟨y1, 2, none⟩) hl1).trans m12; have c13 := (hSw.cell (p := ⟨y1, 3, none⟩) hl1).trans m13; go_simp; try with_reducible rfl)
         try simp only [pu0, puN, pu1, pu2, pu3]
         refine wpAnyH_take (i := 36) (oi := ({ dst := some 178, op := .move (.tmp 7), type := 36, pos := "law.go:87", after := #[⟨31, .guard⟩], guard := some (31, false) } : Oper)) (v := ?av99) rfl (by kernel_rfl) (by kernel_rfl) (by kernel_rfl) (fun _ _ _ h => h) (Or.inl ⟨by rfl, ?ay99⟩) T92 ?_
         case ay99 => (intro V hSw; go_simp; try with_reducible rfl)
         try simp only [pu0, puN, pu1, pu2, pu3]
         refine wpAnyH_take (i := 37) (oi := ({ dst := some 179, op := .load 64 (.tmp 13), type := 64, pos := "law.go:87", after := #[⟨31, .guard⟩], guard := some (31, false) } : Oper)) (v := ?av100) rfl (by kernel_rfl) (by kernel_rfl) (by kernel_rfl) (fun _ _ _ h => h) (Or.inl ⟨by rfl, ?ay100⟩) T92 ?_
         case ay100 => (intro V hSw; have c20 := (hSw.cell (p := ⟨y2, 0, none⟩) hl2).trans m20; have c21 := (hSw.cell (p := ⟨y2, 1, none⟩) hl2).trans m21; have c22 := (hSw.cell (p := ⟨y2, 2, none⟩) hl2).trans m22; have c23 := (hSw.cell (p := ⟨y2, 3, none⟩) hl2).trans m23; go_simp; try with_reducible rfl)
         try simp only [pu0, puN, pu1, pu2, pu3]
         refine wpAnyH_take (i := 38) (oi := ({ dst := some 180, op := .load 64 (.tmp 12), type := 64, pos := "law.go:87", after := #[⟨31, .guard⟩], guard := some (31, false) } : Oper)) (v := ?av101) rfl (by kernel_rfl) (by kernel_rfl) (by kernel_rfl) (fun _ _ _ h => h) (Or.inl ⟨by rfl, ?ay101⟩) T92 ?_
         case ay101 => (intro V hSw; have c10 := (hSw.cell (p := ⟨y1, 0, none⟩) hl1).trans m10; have c11 := (hSw.cell (p := ⟨y1, 1, none⟩) hl1).trans m11; have c12 := (hSw.cell (p := ⟨y1, 2, none⟩) hl1).trans m12; have c13 := (hSw.cell (p := ⟨y1, 3, none⟩) hl1).trans m13; go_simp; try with_reducible rfl)
         try simp only [pu0, puN, pu1, pu2, pu3]
         refine wpAnyH_ready (rs := [35]) (by kernel_rfl) (by simp) ?_
         refine (AllReadyH.cons (o := _) rfl (fun K hK => ?_) AllReadyH.nil)
         go_simp
         refine (Below_any (HT.out.below ((X.out.trans (T92.mono X.out.size)).mono HT.out.hB)) hz2 hzs).mono ?_
         rintro e P102 ⟨rb, rfl, hrb, hb102⟩
         have T102 := T92.trans (hb102.mono T92.size)
         try go_wp2_with fail
         refine hK.out _ _ T102 (fun hS102 => ?_)
         clear hK K
         try simp only [pu0, puN, pu1, pu2, pu3]
         refine wpAnyH_ready (rs := [39]) (by kernel_rfl) (by simp) ?_
         refine (AllReadyH.cons (o := _) rfl (fun K hK => ?_) AllReadyH.nil)
         go_simp
         refine ((RBelow_any (HU.out.link (X.out.trans (T102.mono X.out.size))) good7 names7_ok hz2 hzs).mono (fun e w' h => BAns.lit h hrb)).mono ?_
         rintro e P103 ⟨rfl, hb103⟩
         have T103 := T102.trans (hb103.mono T102.size)
         try go_wp2_with fail
         refine hK.out _ _ T103 (fun hS103 => ?_)
         clear hK K
         try simp only [pu0, puN, pu1, pu2, pu3]
         refine wpAnyH_take (i := 40) (oi := ({ dst := some 182, op := .binOp .neq 4 (.tmp 177) (.tmp 181) 4, type := 4, pos := "law.go:87", after := #[⟨35, .data⟩, ⟨39, .data⟩, ⟨31, .guard⟩], guard := some (31, false) } : Oper)) (v := ?av104) rfl (by kernel_rfl) (by kernel_rfl) (by kernel_rfl) (fun _ _ _ h => h) (Or.inl ⟨by rfl, ?ay104⟩) T103 ?_
         case ay104 => (intro V hSw; have qn : (rb != rb) = false := (by simp); go_simp; try with_reducible rfl)
         try simp only [pu0, puN, pu1, pu2, pu3]
         refine wpAnyH_take (i := 41) (oi := ({ dst := some 183, op := .pick (.tmp 173) (.const (.bool true)) (.tmp 182), type := 4, pos := "law.go:87", after := #[⟨31, .data⟩, ⟨40, .data⟩], guard := none } : Oper)) (v := ?av105) rfl (by kernel_rfl) (by kernel_rfl) (by kernel_rfl) (fun _ _ _ h => h) (Or.inl ⟨by rfl, ?ay105⟩) T103 ?_
         case ay105 => (intro V hSw; go_simp; try with_reducible rfl)
         try simp only [pu0, puN, pu1, pu2, pu3]
         refine wpAnyH_done (by kernel_rfl) ?_ _
         try go_wp2
         go_meet
         case rel => exact ⟨by first | rfl | simp, T103⟩
        obtain ⟨rfl, hb⟩ := hcut
        obtain ⟨V10, hV⟩ : ∃ x, x = wc := ⟨_, rfl⟩
        subst hV
        replace X := Lib.hid (X.out.trans (hb.mono X.out.size))
        replace Za := Lib.hid (Za.out.trans (hb.mono Za.out.size))
        replace Zc := Lib.hid (Zc.out.trans (hb.mono Zc.out.size))
        replace Zj := Lib.hid (Zj.out.trans (hb.mono Zj.out.size))
        replace H1 := Lib.hid ((hb.block _ (lt_of_block H1.out)).trans H1.out)
        replace H2 := Lib.hid ((hb.block _ (lt_of_block H2.out)).trans H2.out)
        clear hb
        go_wp2
        go_roundg (gj - 1)
        case measure => exact hgxj
        case rel => exact ⟨j + 1, by go_num, by omega, Zj.out⟩
       ·have ej1 : decide ((j : Int) ≤ (a : Int)) = false := decide_eq_false (by omega)
        have haj : a < j := by omega
        clear hjq
        go_wp2
        go_roundg (ga - 1)
        case measure => exact hgxa
        case rel => exact ⟨a + 1, by go_num, by omega, SK2.out, Za.out⟩
   ·rw [decide_eq_false haq]
    clear haq
    have BZ := Lib.hid (Below.hlink BU.out X.out)
    go_wp2
    go_ret
    exact ⟨rfl, BZ.out⟩
end Go.Proofs.YtmaknddlgppinaaGreatDoor
