/-
  CUT and joined from the texts of this seat: Mj
-/
import Derived.Test.YtmaknddlgppinaaGreatDoorZ01
import Derived.Test.YtmaknddlgppinaaGreatDoorZ41
import Derived.Deep.RegionHeld3
set_option linter.unusedVariables false
set_option linter.unusedSimpArgs false
namespace Go.Proofs.YtmaknddlgppinaaGreatDoor
open Go.RowKit
/-- A row of knowns. -/
def KRow (B : Nat) (w : World) (v : Value) (l : List KQ) : Prop := Row B 4 w v l.length (kcells l)
theorem KRow.at_ {B : Nat} {w : World} {A : Option Addr} {n cap k : Nat} {l : List KQ} {q : KQ} (h : KRow B w (.slice A n cap) l) (hk : l[k]? = some q) :
  ∃ b o, A = some ⟨b, o, none⟩ ∧ b < B ∧ w.cell? ⟨b, o + k * 4, none⟩ = some (.int .i64 q.1) ∧ w.cell? ⟨b, o + k * 4 + 1, none⟩ = some (.int .i64 q.2.1) ∧ w.cell? ⟨b, o + k * 4 + 2, none⟩ = some (.string q.2.2.1) ∧ w.cell? ⟨b, o + k * 4 + 3, none⟩ = some (.int .i64 q.2.2.2) := by
 obtain ⟨A', cap', e, _, _, _, h2⟩ := h
 injection e with e1 e2 e3
 subst e1
 have hl : k < l.length := (List.getElem?_eq_some_iff.1 hk).1
 obtain ⟨b, o, e, hb, hc⟩ := h2 (by omega)
 obtain ⟨k0, k1, k2, k3⟩ := kcells_at hk
 exact ⟨b, o, e, hb, hc _ _ k0, hc _ _ k1, hc _ _ k2, hc _ _ k3⟩
theorem KRow.form {B : Nat} {w : World} {v : Value} {l : List KQ} (h : KRow B w v l) : ∃ A cap, v = .slice A l.length cap ∧ l.length ≤ cap ∧ l.length ≤ maxLen := by
 obtain ⟨A, cap, e, h1, h2, _⟩ := h
 exact ⟨A, cap, e, h1, h2⟩
theorem KRow.below {B : Nat} {w w' : World} {v : Value} {l : List KQ} (h : KRow B w v l) (hb : Below B w w') : KRow B w' v l := Row.keep h (fun p hp => hb.cell hp)
theorem lists_eq {la lb : List KQ} {n : Nat} (ha : la.length = n) (hb : lb.length = n) (h : ∀ k, k < n → la[k]? = lb[k]?) : la = lb := by
 apply List.ext_getElem?
 intro k
 by_cases hk : k < n
 ·exact h k hk
 ·rw [List.getElem?_eq_none (by omega), List.getElem?_eq_none (by omega)]
set_option maxRecDepth 1000000 in
set_option maxHeartbeats 6400000 in
theorem Equal64_any {B : Nat} (la lb : List KQ) (va vb : Value) (w : World) (ha : KRow B w va la) (hb : KRow B w vb lb) (hB : B ≤ w.heap.size) :
  Calls Tryz.prog 93 #[va, vb] w fun e w' => e = .returned (.bool (decide (la = lb))) ∧ Below w.heap.size w w' := by
 obtain ⟨Aa, ca, rfl, _, hma⟩ := ha.form
 obtain ⟨Ab, cb, rfl, _, hmb⟩ := hb.form
 have Ha := Lib.hid ha
 have Hb := Lib.hid hb
 have hMa : ((la.length : Nat) : Int) ≤ 9223372036854775807 := by unfold maxLen at hma; omega
 have hMb : ((lb.length : Nat) : Int) ≤ 9223372036854775807 := by unfold maxLen at hmb; omega
 clear ha hb hma hmb
 go_enter Tryz.func93, Tryz.ntmps93
 by_cases hl : la.length = lb.length
 ·have e1 : (((la.length : Nat) : Int) != ((lb.length : Nat) : Int)) = false := by rw [hl]; simp
  have HL := Lib.hid hl
  clear hl
  go_wp2
  go_loopg [13] la.length (fun g iv wx => ∃ i : Nat, iv = .int .i64 i ∧ i + g = la.length ∧ (∀ k, k < i → la[k]? = lb[k]?) ∧ Below w.heap.size w wx)
  case atStart => exact ⟨0, rfl, by omega, fun k hk => by omega, Below.refl _ _⟩
  case round =>
   obtain ⟨i, rfl, hig, hsame, hbx⟩ := hrel
   obtain ⟨V0, hV⟩ : ∃ x, x = wr := ⟨_, rfl⟩
   subst hV
   have X := Lib.hid hbx
   have SM := Lib.hid hsame
   clear hbx hsame
   by_cases hi : i < la.length
   ·have hgx : gk - 1 < gk := by omega
    have hib : i < lb.length := by have := HL.out; omega
    have e2 : decide (((i : Nat) : Int) < ((la.length : Nat) : Int)) = true := decide_eq_true (by omega)
    obtain ⟨⟨ka, da, sa, na⟩, hqa⟩ : ∃ q, la[i]? = some q := ⟨_, List.getElem?_eq_getElem (by first | omega | (have := HL.out; omega))⟩
    obtain ⟨ba, oa, rfl, hba, x0, x1, x2, x3⟩ := KRow.at_ Ha.out hqa
    simp only at x0 x1 x2 x3
    have a0 := (X.out.cell (p := ⟨ba, oa + i * 4, none⟩) (Nat.lt_of_lt_of_le hba hB)).trans x0
    have a1 := (X.out.cell (p := ⟨ba, oa + i * 4 + 1, none⟩) (Nat.lt_of_lt_of_le hba hB)).trans x1
    have a2 := (X.out.cell (p := ⟨ba, oa + i * 4 + 2, none⟩) (Nat.lt_of_lt_of_le hba hB)).trans x2
    have a3 := (X.out.cell (p := ⟨ba, oa + i * 4 + 3, none⟩) (Nat.lt_of_lt_of_le hba hB)).trans x3
    have hbaw : ba < V0.heap.size := Nat.lt_of_lt_of_le hba (Nat.le_trans hB X.out.size)
    clear x0 x1 x2 x3
    obtain ⟨⟨kb, db, sb, nb⟩, hqb⟩ : ∃ q, lb[i]? = some q := ⟨_, List.getElem?_eq_getElem (by first | omega | (have := HL.out; omega))⟩
    obtain ⟨bb, ob, rfl, hbb, x0, x1, x2, x3⟩ := KRow.at_ Hb.out hqb
    simp only at x0 x1 x2 x3
    have b0 := (X.out.cell (p := ⟨bb, ob + i * 4, none⟩) (Nat.lt_of_lt_of_le hbb hB)).trans x0
    have b1 := (X.out.cell (p := ⟨bb, ob + i * 4 + 1, none⟩) (Nat.lt_of_lt_of_le hbb hB)).trans x1
    have b2 := (X.out.cell (p := ⟨bb, ob + i * 4 + 2, none⟩) (Nat.lt_of_lt_of_le hbb hB)).trans x2
    have b3 := (X.out.cell (p := ⟨bb, ob + i * 4 + 3, none⟩) (Nat.lt_of_lt_of_le hbb hB)).trans x3
    have hbbw : bb < V0.heap.size := Nat.lt_of_lt_of_le hbb (Nat.le_trans hB X.out.size)
    clear x0 x1 x2 x3
    have QA := Lib.hid hqa
    have QB := Lib.hid hqb
    clear hqa hqb
    by_cases hq : ka = kb ∧ (da = db ∧ sa = sb) ∧ na = nb
    ·have HQ := Lib.hid hq
     obtain ⟨rfl, ⟨rfl, rfl⟩, rfl⟩ := hq
     have qn := neq64_same ka da na sa
     go_upto_region 6 with fail
     have T0 := (Below.refl V0.heap.size V0).drew
     refine wp_region_held_drew (S := fun W => Below V0.heap.size V0 W) (by kernel_rfl) T0 (fun hS0 => ?_)
     refine wpAnyH_take (i := 0) (oi := ({ dst := some 16, op := Op.move (Operand.tmp 0), type := 60, pos := "slices.go:25", after := #[], guard := none } : Oper)) (v := ?av1) rfl (by kernel_rfl) (by kernel_rfl) (by kernel_rfl) (fun _ _ _ h => h) (Or.inl ⟨by rfl, ?ay1⟩) T0 ?_
     case ay1 => (intro V hSw; go_simp; try with_reducible rfl)
     try simp only [pu0, puN, pu1, pu2, pu3]
     refine wpAnyH_take (i := 1) (oi := ({ dst := some 17, op := Op.move (Operand.tmp 5), type := 3, pos := "slices.go:25", after := #[], guard := none } : Oper)) (v := ?av2) rfl (by kernel_rfl) (by kernel_rfl) (by kernel_rfl) (fun _ _ _ h => h) (Or.inl ⟨by rfl, ?ay2⟩) T0 ?_
     case ay2 => (intro V hSw; go_simp; try with_reducible rfl)
     try simp only [pu0, puN, pu1, pu2, pu3]
     refine wpAnyH_take (i := 2) (oi := ({ dst := some 18, op := Op.indexAddr 60 (Operand.tmp 16) (Operand.tmp 17), type := 0, pos := "slices.go:25", after := #[{ on := 0, ground := Ground.data }, { on := 1, ground := Ground.data }], guard := none } : Oper)) (v := ?av3) rfl (by kernel_rfl) (by kernel_rfl) (by kernel_rfl) (fun _ _ _ h => h) (Or.inl ⟨by rfl, ?ay3⟩) T0 ?_
     case ay3 => (intro V hSw; go_simp; try with_reducible rfl)
     try simp only [pu0, puN, pu1, pu2, pu3]
     refine wpAnyH_take (i := 3) (oi := ({ dst := some 19, op := Op.load 64 (Operand.tmp 18), type := 64, pos := "slices.go:25", after := #[{ on := 2, ground := Ground.data }], guard := none } : Oper)) (v := ?av4) rfl (by kernel_rfl) (by kernel_rfl) (by kernel_rfl) (fun _ _ _ h => h) (Or.inl ⟨by rfl, ?ay4⟩) T0 ?_
     case ay4 => (intro V hSw; have ca0 := (hSw.cell (p := ⟨ba, oa + i * 4, none⟩) hbaw).trans a0; have ca1 := (hSw.cell (p := ⟨ba, oa + i * 4 + 1, none⟩) hbaw).trans a1; have ca2 := (hSw.cell (p := ⟨ba, oa + i * 4 + 2, none⟩) hbaw).trans a2; have ca3 := (hSw.cell (p := ⟨ba, oa + i * 4 + 3, none⟩) hbaw).trans a3; go_simp; try with_reducible rfl)
     try simp only [pu0, puN, pu1, pu2, pu3]
     refine wpAnyH_take (i := 4) (oi := ({ dst := some 20, op := Op.move (Operand.tmp 1), type := 60, pos := "slices.go:25", after := #[], guard := none } : Oper)) (v := ?av5) rfl (by kernel_rfl) (by kernel_rfl) (by kernel_rfl) (fun _ _ _ h => h) (Or.inl ⟨by rfl, ?ay5⟩) T0 ?_
     case ay5 => (intro V hSw; go_simp; try with_reducible rfl)
     try simp only [pu0, puN, pu1, pu2, pu3]
     refine wpAnyH_take (i := 5) (oi := ({ dst := some 21, op := Op.move (Operand.tmp 5), type := 3, pos := "slices.go:25", after := #[], guard := none } : Oper)) (v := ?av6) rfl (by kernel_rfl) (by kernel_rfl) (by kernel_rfl) (fun _ _ _ h => h) (Or.inl ⟨by rfl, ?ay6⟩) T0 ?_
     case ay6 => (intro V hSw; go_simp; try with_reducible rfl)
     try simp only [pu0, puN, pu1, pu2, pu3]
     refine wpAnyH_take (i := 6) (oi := ({ dst := some 22, op := Op.indexAddr 60 (Operand.tmp 20) (Operand.tmp 21), type := 0, pos := "slices.go:25", after := #[{ on := 4, ground := Ground.data }, { on := 5, ground := Ground.data }], guard := none } : Oper)) (v := ?av7) rfl (by kernel_rfl) (by kernel_rfl) (by kernel_rfl) (fun _ _ _ h => h) (Or.inl ⟨by rfl, ?ay7⟩) T0 ?_
     case ay7 => (intro V hSw; go_simp; try with_reducible rfl)
     try simp only [pu0, puN, pu1, pu2, pu3]
     refine wpAnyH_take (i := 7) (oi := ({ dst := some 23, op := Op.load 64 (Operand.tmp 22), type := 64, pos := "slices.go:25", after := #[{ on := 6, ground := Ground.data }], guard := none } : Oper)) (v := ?av8) rfl (by kernel_rfl) (by kernel_rfl) (by kernel_rfl) (fun _ _ _ h => h) (Or.inl ⟨by rfl, ?ay8⟩) T0 ?_
     case ay8 => (intro V hSw; have cb0 := (hSw.cell (p := ⟨bb, ob + i * 4, none⟩) hbbw).trans b0; have cb1 := (hSw.cell (p := ⟨bb, ob + i * 4 + 1, none⟩) hbbw).trans b1; have cb2 := (hSw.cell (p := ⟨bb, ob + i * 4 + 2, none⟩) hbbw).trans b2; have cb3 := (hSw.cell (p := ⟨bb, ob + i * 4 + 3, none⟩) hbbw).trans b3; go_simp; try with_reducible rfl)
     try simp only [pu0, puN, pu1, pu2, pu3]
     refine wpAnyH_take (i := 8) (oi := ({ dst := some 24, op := Op.binOp BinOp.neq 64 (Operand.tmp 19) (Operand.tmp 23) 64, type := 4, pos := "slices.go:25", after := #[{ on := 3, ground := Ground.data }, { on := 7, ground := Ground.data }], guard := none } : Oper)) (v := ?av9) rfl (by kernel_rfl) (by kernel_rfl) (by kernel_rfl) (fun _ _ _ h => h) (Or.inl ⟨by rfl, ?ay9⟩) T0 ?_
     case ay9 => (intro V hSw; go_simp; try with_reducible rfl)
     try simp only [pu0, puN, pu1, pu2, pu3]
     refine wpAnyH_done (by kernel_rfl) ?_ _
     go_wp2
     go_roundg (gk - 1)
     case measure => exact hgx
     case rel => exact ⟨i + 1, by go_num, by omega, fun k hk => by
      rcases Nat.lt_succ_iff_lt_or_eq.1 hk with h | rfl
      ·exact SM.out k h
      ·rw [QA.out, QB.out], X.out.trans (T0.mono X.out.size)⟩
    ·have qn := neq64_diff hq
     have HQ := Lib.hid hq
     clear hq
     go_upto_region 6 with fail
     have T0 := (Below.refl V0.heap.size V0).drew
     refine wp_region_held_drew (S := fun W => Below V0.heap.size V0 W) (by kernel_rfl) T0 (fun hS0 => ?_)
     refine wpAnyH_take (i := 0) (oi := ({ dst := some 16, op := Op.move (Operand.tmp 0), type := 60, pos := "slices.go:25", after := #[], guard := none } : Oper)) (v := ?av10) rfl (by kernel_rfl) (by kernel_rfl) (by kernel_rfl) (fun _ _ _ h => h) (Or.inl ⟨by rfl, ?ay10⟩) T0 ?_
     case ay10 => (intro V hSw; go_simp; try with_reducible rfl)
     try simp only [pu0, puN, pu1, pu2, pu3]
     refine wpAnyH_take (i := 1) (oi := ({ dst := some 17, op := Op.move (Operand.tmp 5), type := 3, pos := "slices.go:25", after := #[], guard := none } : Oper)) (v := ?av11) rfl (by kernel_rfl) (by kernel_rfl) (by kernel_rfl) (fun _ _ _ h => h) (Or.inl ⟨by rfl, ?ay11⟩) T0 ?_
     case ay11 => (intro V hSw; go_simp; try with_reducible rfl)
     try simp only [pu0, puN, pu1, pu2, pu3]
     refine wpAnyH_take (i := 2) (oi := ({ dst := some 18, op := Op.indexAddr 60 (Operand.tmp 16) (Operand.tmp 17), type := 0, pos := "slices.go:25", after := #[{ on := 0, ground := Ground.data }, { on := 1, ground := Ground.data }], guard := none } : Oper)) (v := ?av12) rfl (by kernel_rfl) (by kernel_rfl) (by kernel_rfl) (fun _ _ _ h => h) (Or.inl ⟨by rfl, ?ay12⟩) T0 ?_
     case ay12 => (intro V hSw; go_simp; try with_reducible rfl)
     try simp only [pu0, puN, pu1, pu2, pu3]
     refine wpAnyH_take (i := 3) (oi := ({ dst := some 19, op := Op.load 64 (Operand.tmp 18), type := 64, pos := "slices.go:25", after := #[{ on := 2, ground := Ground.data }], guard := none } : Oper)) (v := ?av13) rfl (by kernel_rfl) (by kernel_rfl) (by kernel_rfl) (fun _ _ _ h => h) (Or.inl ⟨by rfl, ?ay13⟩) T0 ?_
     case ay13 => (intro V hSw; have ca0 := (hSw.cell (p := ⟨ba, oa + i * 4, none⟩) hbaw).trans a0; have ca1 := (hSw.cell (p := ⟨ba, oa + i * 4 + 1, none⟩) hbaw).trans a1; have ca2 := (hSw.cell (p := ⟨ba, oa + i * 4 + 2, none⟩) hbaw).trans a2; have ca3 := (hSw.cell (p := ⟨ba, oa + i * 4 + 3, none⟩) hbaw).trans a3; go_simp; try with_reducible rfl)
     try simp only [pu0, puN, pu1, pu2, pu3]
     refine wpAnyH_take (i := 4) (oi := ({ dst := some 20, op := Op.move (Operand.tmp 1), type := 60, pos := "slices.go:25", after := #[], guard := none } : Oper)) (v := ?av14) rfl (by kernel_rfl) (by kernel_rfl) (by kernel_rfl) (fun _ _ _ h => h) (Or.inl ⟨by rfl, ?ay14⟩) T0 ?_
     case ay14 => (intro V hSw; go_simp; try with_reducible rfl)
     try simp only [pu0, puN, pu1, pu2, pu3]
     refine wpAnyH_take (i := 5) (oi := ({ dst := some 21, op := Op.move (Operand.tmp 5), type := 3, pos := "slices.go:25", after := #[], guard := none } : Oper)) (v := ?av15) rfl (by kernel_rfl) (by kernel_rfl) (by kernel_rfl) (fun _ _ _ h => h) (Or.inl ⟨by rfl, ?ay15⟩) T0 ?_
     case ay15 => (intro V hSw; go_simp; try with_reducible rfl)
     try simp only [pu0, puN, pu1, pu2, pu3]
     refine wpAnyH_take (i := 6) (oi := ({ dst := some 22, op := Op.indexAddr 60 (Operand.tmp 20) (Operand.tmp 21), type := 0, pos := "slices.go:25", after := #[{ on := 4, ground := Ground.data }, { on := 5, ground := Ground.data }], guard := none } : Oper)) (v := ?av16) rfl (by kernel_rfl) (by kernel_rfl) (by kernel_rfl) (fun _ _ _ h => h) (Or.inl ⟨by rfl, ?ay16⟩) T0 ?_
     case ay16 => (intro V hSw; go_simp; try with_reducible rfl)
     try simp only [pu0, puN, pu1, pu2, pu3]
     refine wpAnyH_take (i := 7) (oi := ({ dst := some 23, op := Op.load 64 (Operand.tmp 22), type := 64, pos := "slices.go:25", after := #[{ on := 6, ground := Ground.data }], guard := none } : Oper)) (v := ?av17) rfl (by kernel_rfl) (by kernel_rfl) (by kernel_rfl) (fun _ _ _ h => h) (Or.inl ⟨by rfl, ?ay17⟩) T0 ?_
     case ay17 => (intro V hSw; have cb0 := (hSw.cell (p := ⟨bb, ob + i * 4, none⟩) hbbw).trans b0; have cb1 := (hSw.cell (p := ⟨bb, ob + i * 4 + 1, none⟩) hbbw).trans b1; have cb2 := (hSw.cell (p := ⟨bb, ob + i * 4 + 2, none⟩) hbbw).trans b2; have cb3 := (hSw.cell (p := ⟨bb, ob + i * 4 + 3, none⟩) hbbw).trans b3; go_simp; try with_reducible rfl)
     try simp only [pu0, puN, pu1, pu2, pu3]
     refine wpAnyH_take (i := 8) (oi := ({ dst := some 24, op := Op.binOp BinOp.neq 64 (Operand.tmp 19) (Operand.tmp 23) 64, type := 4, pos := "slices.go:25", after := #[{ on := 3, ground := Ground.data }, { on := 7, ground := Ground.data }], guard := none } : Oper)) (v := ?av18) rfl (by kernel_rfl) (by kernel_rfl) (by kernel_rfl) (fun _ _ _ h => h) (Or.inl ⟨by rfl, ?ay18⟩) T0 ?_
     case ay18 => (intro V hSw; go_simp; try with_reducible rfl)
     try simp only [pu0, puN, pu1, pu2, pu3]
     refine wpAnyH_done (by kernel_rfl) ?_ _
     go_wp2
     go_ret
     exact ⟨ret_bool (decide_eq_false (fun h => by
      have := QA.out.symm.trans ((congrArg (fun l => l[i]?) h).trans QB.out)
      cases this
      exact HQ.out ⟨rfl, ⟨rfl, rfl⟩, rfl⟩)).symm, X.out.trans (T0.mono X.out.size)⟩
   ·have e2 : decide (((i : Nat) : Int) < ((la.length : Nat) : Int)) = false := decide_eq_false (by omega)
    have hNi : la.length ≤ i := by omega
    clear hi
    go_wp2
    go_ret
    exact ⟨ret_bool (decide_eq_true (lists_eq rfl HL.out.symm (fun k hk => SM.out k (by omega)))).symm, X.out⟩
 ·have e1 : (((la.length : Nat) : Int) != ((lb.length : Nat) : Int)) = true := by simp; omega
  have HL := Lib.hid hl
  clear hl
  go_wp2
  go_ret
  exact ⟨ret_bool (decide_eq_false (fun h => HL.out (by rw [h]))).symm, Below.refl _ _⟩
/-- What allBelow tells. -/
def BelowL (cs : List PC) (la lb : List KQ) : Prop := lb.length ≤ la.length ∧ ∀ (i : Nat) (qa qb : KQ), la[i]? = some qa → lb[i]? = some qb → BelowK cs VT qa.kn qb.kn
def Small (l : List KQ) : Prop := ∀ q ∈ l, q.2.2.1.size ≤ 1000000
section
variable {Bt tb mb cap ow : Nat} {A : Option Addr} {cs : List PC} {cl sl : Nat → Nat} {S : Nat → List Nat}
set_option maxRecDepth 1000000 in
set_option maxHeartbeats 6400000 in
theorem allBelow_any {B : Nat} (la lb : List KQ) (va vb : Value) (w : World) (h : HT Bt tb mb A cap ow cs cl sl S w) (ha : KRow B w va la) (hb : KRow B w vb lb) (hB : B ≤ w.heap.size) (hsa : Small la) (hsb : Small lb) :
  Calls Tryz.prog 92 #[.pointer (some ⟨tb, 0, none⟩), va, vb] w fun e w' => BAns (BelowL cs la lb) w w' e := by
 obtain ⟨Aa, ca, rfl, _, hma⟩ := ha.form
 obtain ⟨Ab, cb, rfl, _, hmb⟩ := hb.form
 have Ha := Lib.hid ha
 have Hb := Lib.hid hb
 have HT := Lib.hid h
 have hMa : ((la.length : Nat) : Int) ≤ 9223372036854775807 := by unfold maxLen at hma; omega
 have hMb : ((lb.length : Nat) : Int) ≤ 9223372036854775807 := by unfold maxLen at hmb; omega
 clear ha hb hma hmb h
 go_enter Tryz.func92, Tryz.ntmps92
 by_cases hl : la.length < lb.length
 ·have e1 : decide (((la.length : Nat) : Int) < ((lb.length : Nat) : Int)) = true := decide_eq_true (by omega)
  have HL := Lib.hid hl
  clear hl
  go_wp2
  go_ret
  exact ⟨false, rfl, ⟨fun h => (by cases h), fun h => absurd h.1 (by have := HL.out; omega)⟩, Below.refl _ _⟩
 ·have e1 : decide (((la.length : Nat) : Int) < ((lb.length : Nat) : Int)) = false := decide_eq_false (by omega)
  have HL := Lib.hid hl
  go_wp2
  go_loopg [16] lb.length (fun g iv wx => ∃ i : Nat, iv = .int .i64 i ∧ i + g = lb.length ∧ (∀ (k : Nat) (qa qb : KQ), k < i → la[k]? = some qa → lb[k]? = some qb → BelowK cs VT qa.kn qb.kn) ∧ Below w.heap.size w wx)
  case atStart => exact ⟨0, rfl, by omega, fun k _ _ hk => by omega, Below.refl _ _⟩
  case round =>
   obtain ⟨i, rfl, hig, hsame, hbx⟩ := hrel
   obtain ⟨V0, hV⟩ : ∃ x, x = wr := ⟨_, rfl⟩
   subst hV
   have X := Lib.hid hbx
   have SM := Lib.hid hsame
   clear hbx hsame
   by_cases hi : i < lb.length
   ·have hgx : gk - 1 < gk := by omega
    have hia : i < la.length := by omega
    have e2 : decide (((i : Nat) : Int) < ((lb.length : Nat) : Int)) = true := decide_eq_true (by omega)
    obtain ⟨⟨ka, da, sa, na⟩, hqa⟩ : ∃ q, la[i]? = some q := ⟨_, List.getElem?_eq_getElem (by omega)⟩
    obtain ⟨ba, oa, rfl, hba, x0, x1, x2, x3⟩ := KRow.at_ Ha.out hqa
    simp only at x0 x1 x2 x3
    have a0 := (X.out.cell (p := ⟨ba, oa + i * 4, none⟩) (Nat.lt_of_lt_of_le hba hB)).trans x0
    have a1 := (X.out.cell (p := ⟨ba, oa + i * 4 + 1, none⟩) (Nat.lt_of_lt_of_le hba hB)).trans x1
    have a2 := (X.out.cell (p := ⟨ba, oa + i * 4 + 2, none⟩) (Nat.lt_of_lt_of_le hba hB)).trans x2
    have a3 := (X.out.cell (p := ⟨ba, oa + i * 4 + 3, none⟩) (Nat.lt_of_lt_of_le hba hB)).trans x3
    have hbaw : ba < V0.heap.size := Nat.lt_of_lt_of_le hba (Nat.le_trans hB X.out.size)
    clear x0 x1 x2 x3
    obtain ⟨⟨kb, db, sb, nb⟩, hqb⟩ : ∃ q, lb[i]? = some q := ⟨_, List.getElem?_eq_getElem (by omega)⟩
    obtain ⟨bb, ob, rfl, hbb, x0, x1, x2, x3⟩ := KRow.at_ Hb.out hqb
    simp only at x0 x1 x2 x3
    have b0 := (X.out.cell (p := ⟨bb, ob + i * 4, none⟩) (Nat.lt_of_lt_of_le hbb hB)).trans x0
    have b1 := (X.out.cell (p := ⟨bb, ob + i * 4 + 1, none⟩) (Nat.lt_of_lt_of_le hbb hB)).trans x1
    have b2 := (X.out.cell (p := ⟨bb, ob + i * 4 + 2, none⟩) (Nat.lt_of_lt_of_le hbb hB)).trans x2
    have b3 := (X.out.cell (p := ⟨bb, ob + i * 4 + 3, none⟩) (Nat.lt_of_lt_of_le hbb hB)).trans x3
    have hbbw : bb < V0.heap.size := Nat.lt_of_lt_of_le hbb (Nat.le_trans hB X.out.size)
    clear x0 x1 x2 x3
    have QA := Lib.hid hqa
    have QB := Lib.hid hqb
    have za : sa.size ≤ 1000000 := hsa _ (List.mem_of_getElem? hqa)
    have zb : sb.size ≤ 1000000 := hsb _ (List.mem_of_getElem? hqb)
    clear hqa hqb
    go_upto_region 5 with fail
    go_cut [7, 8] (fun va vb wx => va = .int .i64 i ∧ ∃ y, vb = .pointer (some ⟨y, 0, none⟩) ∧ wx.heap[y]? = some (.cells #[.int .i64 kb, .int .i64 db, .string sb, .int .i64 nb] 64 (0, 0)) ∧ Below V0.heap.size V0 wx)
    case first =>
     go_wp2
     go_meet
     case rel => exact ⟨rfl, _, rfl, hheap_new _ _, (Below.refl _ _).alloc (Nat.le_refl _) _⟩
    obtain ⟨rfl, y, rfl, hy, hb⟩ := hcut
    obtain ⟨V1, hV⟩ : ∃ x, x = wc := ⟨_, rfl⟩
    subst hV
    have X1 := Lib.hid (X.out.trans (hb.mono X.out.size))
    replace a0 := (hb.cell (p := ⟨ba, oa + i * 4, none⟩) hbaw).trans a0
    replace a1 := (hb.cell (p := ⟨ba, oa + i * 4 + 1, none⟩) hbaw).trans a1
    replace a2 := (hb.cell (p := ⟨ba, oa + i * 4 + 2, none⟩) hbaw).trans a2
    replace a3 := (hb.cell (p := ⟨ba, oa + i * 4 + 3, none⟩) hbaw).trans a3
    replace hbaw := Nat.lt_of_lt_of_le hbaw hb.size
    have y0 := kcells_of hy 0
    have y1 := kcells_of hy 1
    have y2 := kcells_of hy 2
    have y3 := kcells_of hy 3
    simp only [List.getElem?_toArray, List.getElem?_cons_succ, List.getElem?_cons_zero] at y0 y1 y2 y3
    have hyl := lt_of_block hy
    clear hy hb b0 b1 b2 b3 hbbw
    go_upto_region 6 with fail
    have T0 := (Below.refl V1.heap.size V1).drew
    refine wp_region_held_drew (S := fun W => Below V1.heap.size V1 W) (by kernel_rfl) T0 (fun hS0 => ?_)
    refine wpAnyH_take (i := 0) (oi := ({ dst := some 21, op := Op.move (Operand.tmp 0), type := 32, pos := "states.go:45", after := #[], guard := none } : Oper)) (v := ?av19) rfl (by kernel_rfl) (by kernel_rfl) (by kernel_rfl) (fun _ _ _ h => h) (Or.inl ⟨by rfl, ?ay19⟩) T0 ?_
    case ay19 => (intro V hSw; go_simp; try with_reducible rfl)
    try simp only [pu0, puN, pu1, pu2, pu3]
    refine wpAnyH_take (i := 1) (oi := ({ dst := some 22, op := Op.move (Operand.tmp 1), type := 60, pos := "states.go:45", after := #[], guard := none } : Oper)) (v := ?av20) rfl (by kernel_rfl) (by kernel_rfl) (by kernel_rfl) (fun _ _ _ h => h) (Or.inl ⟨by rfl, ?ay20⟩) T0 ?_
    case ay20 => (intro V hSw; go_simp; try with_reducible rfl)
    try simp only [pu0, puN, pu1, pu2, pu3]
    refine wpAnyH_take (i := 2) (oi := ({ dst := some 23, op := Op.move (Operand.tmp 7), type := 3, pos := "states.go:45", after := #[], guard := none } : Oper)) (v := ?av21) rfl (by kernel_rfl) (by kernel_rfl) (by kernel_rfl) (fun _ _ _ h => h) (Or.inl ⟨by rfl, ?ay21⟩) T0 ?_
    case ay21 => (intro V hSw; go_simp; try with_reducible rfl)
    try simp only [pu0, puN, pu1, pu2, pu3]
    refine wpAnyH_take (i := 3) (oi := ({ dst := some 24, op := Op.indexAddr 60 (Operand.tmp 22) (Operand.tmp 23), type := 0, pos := "states.go:45", after := #[{ on := 1, ground := Ground.data }, { on := 2, ground := Ground.data }], guard := none } : Oper)) (v := ?av22) rfl (by kernel_rfl) (by kernel_rfl) (by kernel_rfl) (fun _ _ _ h => h) (Or.inl ⟨by rfl, ?ay22⟩) T0 ?_
    case ay22 => (intro V hSw; go_simp; try with_reducible rfl)
    try simp only [pu0, puN, pu1, pu2, pu3]
    refine wpAnyH_take (i := 4) (oi := ({ dst := some 25, op := Op.load 64 (Operand.tmp 24), type := 64, pos := "states.go:45", after := #[{ on := 3, ground := Ground.data }], guard := none } : Oper)) (v := ?av23) rfl (by kernel_rfl) (by kernel_rfl) (by kernel_rfl) (fun _ _ _ h => h) (Or.inl ⟨by rfl, ?ay23⟩) T0 ?_
    case ay23 => (intro V hSw; have ca0 := (hSw.cell (p := ⟨ba, oa + i * 4, none⟩) hbaw).trans a0; have ca1 := (hSw.cell (p := ⟨ba, oa + i * 4 + 1, none⟩) hbaw).trans a1; have ca2 := (hSw.cell (p := ⟨ba, oa + i * 4 + 2, none⟩) hbaw).trans a2; have ca3 := (hSw.cell (p := ⟨ba, oa + i * 4 + 3, none⟩) hbaw).trans a3; go_simp; try with_reducible rfl)
    try simp only [pu0, puN, pu1, pu2, pu3]
    refine wpAnyH_take (i := 5) (oi := ({ dst := some 26, op := Op.load 64 (Operand.tmp 8), type := 64, pos := "states.go:45", after := #[], guard := none } : Oper)) (v := ?av24) rfl (by kernel_rfl) (by kernel_rfl) (by kernel_rfl) (fun _ _ _ h => h) (Or.inl ⟨by rfl, ?ay24⟩) T0 ?_
    case ay24 => (intro V hSw; have cy0 := (hSw.cell (p := ⟨y, 0, none⟩) hyl).trans y0; have cy1 := (hSw.cell (p := ⟨y, 1, none⟩) hyl).trans y1; have cy2 := (hSw.cell (p := ⟨y, 2, none⟩) hyl).trans y2; have cy3 := (hSw.cell (p := ⟨y, 3, none⟩) hyl).trans y3; go_simp; try with_reducible rfl)
    try simp only [pu0, puN, pu1, pu2, pu3]
    refine wpAnyH_ready (rs := [6]) (by kernel_rfl) (by simp) ?_
    refine (AllReadyH.cons (o := _) rfl (fun K hK => ?_) AllReadyH.nil)
    go_simp
    refine (Below_any (HT.out.below ((X1.out.trans (T0.mono X1.out.size)).mono HT.out.hB)) za zb).mono ?_
    rintro e P25 ⟨r, rfl, hr, hb25⟩
    have HR := Lib.hid hr
    clear hr
    have T25 := T0.trans (hb25.mono T0.size)
    try go_wp2_with fail
    refine hK.out _ _ T25 (fun hS25 => ?_)
    clear hK K
    try simp only [pu0, puN, pu1, pu2, pu3]
    refine wpAnyH_take (i := 7) (oi := ({ dst := some 28, op := Op.unOp UnOp.not 4 (Operand.tmp 27), type := 4, pos := "states.go:45", after := #[{ on := 6, ground := Ground.data }], guard := none } : Oper)) (v := ?av26) rfl (by kernel_rfl) (by kernel_rfl) (by kernel_rfl) (fun _ _ _ h => h) (Or.inl ⟨by rfl, ?ay26⟩) T25 ?_
    case ay26 => (intro V hSw; go_simp; try with_reducible rfl)
    try simp only [pu0, puN, pu1, pu2, pu3]
    refine wpAnyH_done (by kernel_rfl) ?_ _
    cases r with
    | false =>
     go_wp2
     go_ret
     exact ⟨false, rfl, ⟨fun h => (by cases h), fun h => absurd (HR.out.2 (h.2 i _ _ QA.out QB.out)) (by simp)⟩, X1.out.trans (T25.mono X1.out.size)⟩
    | true =>
     go_wp2
     go_roundg (gk - 1)
     case measure => exact hgx
     case rel => exact ⟨i + 1, by go_num, by omega, fun k qa qb hk ha hb => by
      rcases Nat.lt_succ_iff_lt_or_eq.1 hk with h | rfl
      ·exact SM.out k qa qb h ha hb
      ·cases QA.out.symm.trans ha; cases QB.out.symm.trans hb; exact HR.out.1 (by first | rfl | trivial), X1.out.trans (T25.mono X1.out.size)⟩
   ·have e2 : decide (((i : Nat) : Int) < ((lb.length : Nat) : Int)) = false := decide_eq_false (by omega)
    have hNi : lb.length ≤ i := by omega
    clear hi
    go_wp2
    go_ret
    exact ⟨true, rfl, ⟨fun _ => ⟨by omega, fun k qa qb ha hb => SM.out k qa qb (by have := (List.getElem?_eq_some_iff.1 hb).1; omega) ha hb⟩, fun _ => rfl⟩, X.out⟩
end
end Go.Proofs.YtmaknddlgppinaaGreatDoor
