/-
  CUT and joined from the texts of this seat: Mb
-/
import Derived.Test.YtmaknddlgppinaaGreatDoorZ01
import Derived.Test.YtmaknddlgppinaaGreatDoorZ14
import Derived.Deep.RegionHeld3
set_option linter.unusedVariables false
set_option linter.unusedSimpArgs false
namespace Go.Proofs.YtmaknddlgppinaaGreatDoor
open Go.RowKit
/-- Which types are right. -/
def VT (t : TY) : Prop := rightT t.1 t.2 = true
theorem refT_iff (d : Int) (s : List UInt8) : refT d s = true ↔ rightT d s = true ∧ ¬ (d = 0 ∧ s = []) := by
 unfold refT
 cases hr : rightT d s with
 | false => simp
 | true =>
  unfold rightT at hr
  simp only [Bool.and_eq_true, decide_eq_true_eq] at hr
  have h0 := hr.1
  simp only [Bool.true_and, Bool.or_eq_true, decide_eq_true_eq, true_and, not_and]
  constructor
  ·rintro (h | h) h1
   ·omega
   ·exact h
  ·intro h
   by_cases h1 : d = 0
   ·exact .inr (h h1)
   ·exact .inl (by omega)
def rightKB (k d : Int) (s : List UInt8) (n : Int) : Bool :=
 if k = 0 ∨ k = 1 ∨ k = 2 ∨ k = 5 then decide (d = 0 ∧ s = [] ∧ n = 0) else if k = 3 then decide (n = 0) && refT d s else if k = 4 then decide (d = 0 ∧ s = []) && decide (0 ≤ n) else false
theorem rightKB_iff (k d : Int) (s : List UInt8) (n : Int) : rightKB k d s n = true ↔ RightK VT ⟨k, (d, s), n⟩ := by
 have hi : ((d, s) : TY) = intT ↔ d = 0 ∧ s = [] := by unfold intT; exact Prod.mk.injEq _ _ _ _ ▸ Iff.rfl
 unfold rightKB RightK VT
 simp only [hi]
 by_cases h1 : k = 0 ∨ k = 1 ∨ k = 2 ∨ k = 5
 ·rw [if_pos h1]
  simp only [decide_eq_true_eq]
  constructor
  ·rintro ⟨a, b, c⟩; exact .inl ⟨h1, ⟨a, b⟩, c⟩
  ·rintro (⟨_, ⟨a, b⟩, c⟩ | ⟨a, _⟩ | ⟨a, _⟩)
   ·exact ⟨a, b, c⟩
   ·omega
   ·omega
 ·rw [if_neg h1]
  by_cases h3 : k = 3
  ·rw [if_pos h3]
   simp only [Bool.and_eq_true, decide_eq_true_eq]
   constructor
   ·rintro ⟨a, b⟩; exact .inr (.inl ⟨h3, ((refT_iff d s).1 b).1, fun e => ((refT_iff d s).1 b).2 (hi.1 e), a⟩)
   ·rintro (⟨a, _⟩ | ⟨_, a, c, b⟩ | ⟨a, _⟩)
    ·exact absurd a h1
    ·exact ⟨b, (refT_iff d s).2 ⟨a, fun e => c (hi.2 e)⟩⟩
    ·omega
  ·rw [if_neg h3]
   by_cases h4 : k = 4
   ·rw [if_pos h4]
    simp only [Bool.and_eq_true, decide_eq_true_eq]
    constructor
    ·rintro ⟨a, b⟩; exact .inr (.inr ⟨h4, a, b⟩)
    ·rintro (⟨a, _⟩ | ⟨a, _⟩ | ⟨_, a, b⟩)
     ·exact absurd a h1
     ·exact absurd a h3
     ·exact ⟨a, b⟩
   ·rw [if_neg h4]
    constructor
    ·intro h; cases h
    ·rintro (⟨a, _⟩ | ⟨a, _⟩ | ⟨a, _⟩)
     ·exact absurd a h1
     ·exact absurd a h3
     ·exact absurd a h4
set_option maxRecDepth 1000000 in
set_option maxHeartbeats 6400000 in
theorem Right64_any (k d n : Int) (s : ByteArray) (w : World) :
  Calls Tryz.prog 37 #[.agg #[.int .i64 k, .int .i64 d, .string s, .int .i64 n]] w fun e w' => e = .returned (.bool (rightKB k d (L s) n)) ∧ Below w.heap.size w w' := by
 have HE := Lib.hid (show rightKB k d (L s) n = if k = 0 ∨ k = 1 ∨ k = 2 ∨ k = 5 then decide (d = 0 ∧ L s = [] ∧ n = 0) else if k = 3 then decide (n = 0) && refT d (L s) else if k = 4 then decide (d = 0 ∧ L s = []) && decide (0 ≤ n) else false from rfl)
 have B0 := Lib.hid ((Below.refl w.heap.size w).alloc (Nat.le_refl _) (.cells #[.int .i64 k, .int .i64 d, .string s, .int .i64 n] 64))
 have nb := hheap_new w (.cells #[.int .i64 k, .int .i64 d, .string s, .int .i64 n] 64)
 have k0 := kcells_of nb 0
 have k1 := kcells_of nb 1
 have k2 := kcells_of nb 2
 have k3 := kcells_of nb 3
 simp only [List.getElem?_toArray, List.getElem?_cons_succ, List.getElem?_cons_zero] at k0 k1 k2 k3
 have hlw := lt_of_block nb
 clear nb
 generalize rightKB k d (L s) n = R at *
 have EN := Lib.hid (str_nilK s)
 go_enter Tryz.func37, Tryz.ntmps37
 by_cases hk0 : k = 0
 ·subst hk0
  have q1 := fun V : World => eql64 0 d n 0 0 0 s ⟨#[]⟩ V
  have hx : decide (((0 : Int) = 0) ∧ (d = 0 ∧ s = ⟨#[]⟩) ∧ n = 0) = R := by rw [HE.out]; simp [EN.out, and_assoc]
  rw [hx] at q1
  clear hx
  go_wp2
  go_ret
  exact ⟨rfl, B0.out⟩
 by_cases hk1 : k = 1
 ·subst hk1
  have q1 := fun V : World => eql64 1 d n 1 0 0 s ⟨#[]⟩ V
  have hx : decide (((1 : Int) = 1) ∧ (d = 0 ∧ s = ⟨#[]⟩) ∧ n = 0) = R := by rw [HE.out]; simp [EN.out, and_assoc]
  rw [hx] at q1
  clear hx
  go_wp2
  go_ret
  exact ⟨rfl, B0.out⟩
 by_cases hk2 : k = 2
 ·subst hk2
  have q1 := fun V : World => eql64 2 d n 2 0 0 s ⟨#[]⟩ V
  have hx : decide (((2 : Int) = 2) ∧ (d = 0 ∧ s = ⟨#[]⟩) ∧ n = 0) = R := by rw [HE.out]; simp [EN.out, and_assoc]
  rw [hx] at q1
  clear hx
  go_wp2
  go_ret
  exact ⟨rfl, B0.out⟩
 by_cases hk5 : k = 5
 ·subst hk5
  have q1 := fun V : World => eql64 5 d n 5 0 0 s ⟨#[]⟩ V
  have hx : decide (((5 : Int) = 5) ∧ (d = 0 ∧ s = ⟨#[]⟩) ∧ n = 0) = R := by rw [HE.out]; simp [EN.out, and_assoc]
  rw [hx] at q1
  clear hx
  go_wp2
  go_ret
  exact ⟨rfl, B0.out⟩
 by_cases hk3 : k = 3
 ·subst hk3
  by_cases hn : n = 0
  ·subst hn
   have q1 := fun V : World => eql64 3 d 0 3 d 0 s s V
   have hx : decide (((3 : Int) = 3) ∧ (d = d ∧ s = s) ∧ (0 : Int) = 0) = true := by simp
   rw [hx] at q1
   clear hx
   go_upto_region 8 with fail
   have T0 := (Below.refl (w.alloc (.cells #[.int .i64 3, .int .i64 d, .string s, .int .i64 0] 64)).heap.size (w.alloc (.cells #[.int .i64 3, .int .i64 d, .string s, .int .i64 0] 64))).drew
   refine wp_region_held_drew (S := fun V => Below (w.alloc (.cells #[.int .i64 3, .int .i64 d, .string s, .int .i64 0] 64)).heap.size (w.alloc (.cells #[.int .i64 3, .int .i64 d, .string s, .int .i64 0] 64)) V) (by kernel_rfl) T0 (fun hS0 => ?_)
   refine wpAnyH_take (i := 0) (oi := ({ dst := some 17, op := Op.load 64 (Operand.tmp 1), type := 64, pos := "lattice.go:16", after := #[], guard := none } : Oper)) (v := ?av1) rfl (by kernel_rfl) (by kernel_rfl) (by kernel_rfl) (fun _ _ _ h => h) (Or.inl ⟨by rfl, ?ay1⟩) T0 ?_
   case ay1 => (intro V hSw; have c0 := (hSw.cell (p := ⟨w.heap.size, 0, none⟩) hlw).trans k0; have c1 := (hSw.cell (p := ⟨w.heap.size, 1, none⟩) hlw).trans k1; have c2 := (hSw.cell (p := ⟨w.heap.size, 2, none⟩) hlw).trans k2; have c3 := (hSw.cell (p := ⟨w.heap.size, 3, none⟩) hlw).trans k3; go_simp; try with_reducible rfl)
   try simp only [pu0, puN, pu1, pu2, pu3]
   refine wpAnyH_take (i := 1) (oi := ({ dst := some 18, op := Op.fieldAddr 64 (Operand.tmp 1) 1, type := 0, pos := "lattice.go:16", after := #[], guard := none } : Oper)) (v := ?av2) rfl (by kernel_rfl) (by kernel_rfl) (by kernel_rfl) (fun _ _ _ h => h) (Or.inl ⟨by rfl, ?ay2⟩) T0 ?_
   case ay2 => (intro V hSw; go_simp; try with_reducible rfl)
   try simp only [pu0, puN, pu1, pu2, pu3]
   refine wpAnyH_take (i := 2) (oi := ({ dst := some 19, op := Op.load 31 (Operand.tmp 18), type := 31, pos := "lattice.go:16", after := #[{ on := 1, ground := Ground.data }], guard := none } : Oper)) (v := ?av3) rfl (by kernel_rfl) (by kernel_rfl) (by kernel_rfl) (fun _ _ _ h => h) (Or.inl ⟨by rfl, ?ay3⟩) T0 ?_
   case ay3 => (intro V hSw; have c0 := (hSw.cell (p := ⟨w.heap.size, 0, none⟩) hlw).trans k0; have c1 := (hSw.cell (p := ⟨w.heap.size, 1, none⟩) hlw).trans k1; have c2 := (hSw.cell (p := ⟨w.heap.size, 2, none⟩) hlw).trans k2; have c3 := (hSw.cell (p := ⟨w.heap.size, 3, none⟩) hlw).trans k3; go_simp; try with_reducible rfl)
   try simp only [pu0, puN, pu1, pu2, pu3]
   refine wpAnyH_ready (rs := [3]) (by kernel_rfl) (by simp) ?_
   refine (AllReadyH.cons (o := _) rfl (fun K hK => ?_) AllReadyH.nil)
   go_simp
   refine (reference_any d s _).mono ?_
   rintro e P4 ⟨rfl, hb4⟩
   have T4 := T0.trans (hb4.mono T0.size)
   try go_wp2_with fail
   refine hK.out _ _ T4 (fun hS4 => ?_)
   clear hK K
   try simp only [pu0, puN, pu1, pu2, pu3]
   refine wpAnyH_take (i := 4) (oi := ({ dst := some 21, op := Op.binOp BinOp.eql 64 (Operand.tmp 17) (Operand.tmp 20) 64, type := 4, pos := "lattice.go:16", after := #[{ on := 0, ground := Ground.data }, { on := 3, ground := Ground.data }], guard := none } : Oper)) (v := ?av5) rfl (by kernel_rfl) (by kernel_rfl) (by kernel_rfl) (fun _ _ _ h => h) (Or.inl ⟨by rfl, ?ay5⟩) T4 ?_
   case ay5 => (intro V hSw; go_simp; try with_reducible rfl)
   try simp only [pu0, puN, pu1, pu2, pu3]
   refine wpAnyH_take (i := 5) (oi := ({ dst := some 22, op := Op.move (Operand.tmp 21), type := 4, pos := "lattice.go:16", after := #[{ on := 4, ground := Ground.data }, { on := 3, ground := Ground.chain }], guard := none } : Oper)) (v := ?av6) rfl (by kernel_rfl) (by kernel_rfl) (by kernel_rfl) (fun _ _ _ h => h) (Or.inl ⟨by rfl, ?ay6⟩) T4 ?_
   case ay6 => (intro V hSw; go_simp; try with_reducible rfl)
   try simp only [pu0, puN, pu1, pu2, pu3]
   refine wpAnyH_take (i := 6) (oi := ({ dst := some 23, op := Op.fieldAddr 64 (Operand.tmp 1) 1, type := 0, pos := "lattice.go:16", after := #[{ on := 5, ground := Ground.guard }], guard := some (5, true) } : Oper)) (v := ?av7) rfl (by kernel_rfl) (by kernel_rfl) (by kernel_rfl) (fun _ _ _ h => h) (Or.inl ⟨by rfl, ?ay7⟩) T4 ?_
   case ay7 => (intro V hSw; go_simp; try with_reducible rfl)
   try simp only [pu0, puN, pu1, pu2, pu3]
   refine wpAnyH_take (i := 7) (oi := ({ dst := some 24, op := Op.load 31 (Operand.tmp 23), type := 31, pos := "lattice.go:16", after := #[{ on := 6, ground := Ground.data }, { on := 5, ground := Ground.guard }], guard := some (5, true) } : Oper)) (v := ?av8) rfl (by kernel_rfl) (by kernel_rfl) (by kernel_rfl) (fun _ _ _ h => h) (Or.inl ⟨by rfl, ?ay8⟩) T4 ?_
   case ay8 => (intro V hSw; have c0 := (hSw.cell (p := ⟨w.heap.size, 0, none⟩) hlw).trans k0; have c1 := (hSw.cell (p := ⟨w.heap.size, 1, none⟩) hlw).trans k1; have c2 := (hSw.cell (p := ⟨w.heap.size, 2, none⟩) hlw).trans k2; have c3 := (hSw.cell (p := ⟨w.heap.size, 3, none⟩) hlw).trans k3; go_simp; try with_reducible rfl)
   try simp only [pu0, puN, pu1, pu2, pu3]
   refine wpAnyH_ready (rs := [8]) (by kernel_rfl) (by simp) ?_
   refine (AllReadyH.cons (o := _) rfl (fun K hK => ?_) AllReadyH.nil)
   go_simp
   refine (IsRef_any d s _).mono ?_
   rintro e P9 ⟨rfl, hb9⟩
   have T9 := T4.trans (hb9.mono T4.size)
   try go_wp2_with fail
   refine hK.out _ _ T9 (fun hS9 => ?_)
   clear hK K
   try simp only [pu0, puN, pu1, pu2, pu3]
   refine wpAnyH_take (i := 9) (oi := ({ dst := some 26, op := Op.pick (Operand.tmp 22) (Operand.tmp 25) (Operand.const (Value.bool false)), type := 4, pos := "lattice.go:16", after := #[{ on := 5, ground := Ground.data }, { on := 8, ground := Ground.data }], guard := none } : Oper)) (v := ?av10) rfl (by kernel_rfl) (by kernel_rfl) (by kernel_rfl) (fun _ _ _ h => h) (Or.inl ⟨by rfl, ?ay10⟩) T9 ?_
   case ay10 => (intro V hSw; go_simp; try with_reducible rfl)
   try simp only [pu0, puN, pu1, pu2, pu3]
   refine wpAnyH_take (i := 10) (oi := ({ dst := some 2, op := Op.assign (Operand.tmp 26), type := 4, pos := "lattice.go:16", after := #[{ on := 9, ground := Ground.data }, { on := 8, ground := Ground.chain }, { on := 0, ground := Ground.phase }, { on := 1, ground := Ground.phase }, { on := 2, ground := Ground.phase }, { on := 3, ground := Ground.phase }, { on := 4, ground := Ground.phase }, { on := 5, ground := Ground.phase }, { on := 6, ground := Ground.phase }, { on := 7, ground := Ground.phase }, { on := 8, ground := Ground.phase }, { on := 9, ground := Ground.phase }], guard := none } : Oper)) (v := ?av11) rfl (by kernel_rfl) (by kernel_rfl) (by kernel_rfl) (fun _ _ _ h => h) (Or.inl ⟨by rfl, ?ay11⟩) T9 ?_
   case ay11 => (intro V hSw; go_simp; try with_reducible rfl)
   try simp only [pu0, puN, pu1, pu2, pu3]
   refine wpAnyH_done (by kernel_rfl) ?_ _
   try go_wp2
   go_ret
   exact ⟨ret_bool (by rw [HE.out]; simp), B0.out.trans (T9.mono B0.out.size)⟩
  ·have q1 := fun V : World => eql64 3 d n 3 d 0 s s V
   have hx : decide (((3 : Int) = 3) ∧ (d = d ∧ s = s) ∧ n = 0) = false := by simp [hn]
   rw [hx] at q1
   clear hx
   go_upto_region 8 with fail
   have T0 := (Below.refl (w.alloc (.cells #[.int .i64 3, .int .i64 d, .string s, .int .i64 n] 64)).heap.size (w.alloc (.cells #[.int .i64 3, .int .i64 d, .string s, .int .i64 n] 64))).drew
   refine wp_region_held_drew (S := fun V => Below (w.alloc (.cells #[.int .i64 3, .int .i64 d, .string s, .int .i64 n] 64)).heap.size (w.alloc (.cells #[.int .i64 3, .int .i64 d, .string s, .int .i64 n] 64)) V) (by kernel_rfl) T0 (fun hS0 => ?_)
   refine wpAnyH_take (i := 0) (oi := ({ dst := some 17, op := Op.load 64 (Operand.tmp 1), type := 64, pos := "lattice.go:16", after := #[], guard := none } : Oper)) (v := ?av12) rfl (by kernel_rfl) (by kernel_rfl) (by kernel_rfl) (fun _ _ _ h => h) (Or.inl ⟨by rfl, ?ay12⟩) T0 ?_
   case ay12 => (intro V hSw; have c0 := (hSw.cell (p := ⟨w.heap.size, 0, none⟩) hlw).trans k0; have c1 := (hSw.cell (p := ⟨w.heap.size, 1, none⟩) hlw).trans k1; have c2 := (hSw.cell (p := ⟨w.heap.size, 2, none⟩) hlw).trans k2; have c3 := (hSw.cell (p := ⟨w.heap.size, 3, none⟩) hlw).trans k3; go_simp; try with_reducible rfl)
   try simp only [pu0, puN, pu1, pu2, pu3]
   refine wpAnyH_take (i := 1) (oi := ({ dst := some 18, op := Op.fieldAddr 64 (Operand.tmp 1) 1, type := 0, pos := "lattice.go:16", after := #[], guard := none } : Oper)) (v := ?av13) rfl (by kernel_rfl) (by kernel_rfl) (by kernel_rfl) (fun _ _ _ h => h) (Or.inl ⟨by rfl, ?ay13⟩) T0 ?_
   case ay13 => (intro V hSw; go_simp; try with_reducible rfl)
   try simp only [pu0, puN, pu1, pu2, pu3]
   refine wpAnyH_take (i := 2) (oi := ({ dst := some 19, op := Op.load 31 (Operand.tmp 18), type := 31, pos := "lattice.go:16", after := #[{ on := 1, ground := Ground.data }], guard := none } : Oper)) (v := ?av14) rfl (by kernel_rfl) (by kernel_rfl) (by kernel_rfl) (fun _ _ _ h => h) (Or.inl ⟨by rfl, ?ay14⟩) T0 ?_
   case ay14 => (intro V hSw; have c0 := (hSw.cell (p := ⟨w.heap.size, 0, none⟩) hlw).trans k0; have c1 := (hSw.cell (p := ⟨w.heap.size, 1, none⟩) hlw).trans k1; have c2 := (hSw.cell (p := ⟨w.heap.size, 2, none⟩) hlw).trans k2; have c3 := (hSw.cell (p := ⟨w.heap.size, 3, none⟩) hlw).trans k3; go_simp; try with_reducible rfl)
   try simp only [pu0, puN, pu1, pu2, pu3]
   refine wpAnyH_ready (rs := [3]) (by kernel_rfl) (by simp) ?_
   refine (AllReadyH.cons (o := _) rfl (fun K hK => ?_) AllReadyH.nil)
   go_simp
   refine (reference_any d s _).mono ?_
   rintro e P15 ⟨rfl, hb15⟩
   have T15 := T0.trans (hb15.mono T0.size)
   try go_wp2_with fail
   refine hK.out _ _ T15 (fun hS15 => ?_)
   clear hK K
   try simp only [pu0, puN, pu1, pu2, pu3]
   refine wpAnyH_take (i := 4) (oi := ({ dst := some 21, op := Op.binOp BinOp.eql 64 (Operand.tmp 17) (Operand.tmp 20) 64, type := 4, pos := "lattice.go:16", after := #[{ on := 0, ground := Ground.data }, { on := 3, ground := Ground.data }], guard := none } : Oper)) (v := ?av16) rfl (by kernel_rfl) (by kernel_rfl) (by kernel_rfl) (fun _ _ _ h => h) (Or.inl ⟨by rfl, ?ay16⟩) T15 ?_
   case ay16 => (intro V hSw; go_simp; try with_reducible rfl)
   try simp only [pu0, puN, pu1, pu2, pu3]
   refine wpAnyH_take (i := 5) (oi := ({ dst := some 22, op := Op.move (Operand.tmp 21), type := 4, pos := "lattice.go:16", after := #[{ on := 4, ground := Ground.data }, { on := 3, ground := Ground.chain }], guard := none } : Oper)) (v := ?av17) rfl (by kernel_rfl) (by kernel_rfl) (by kernel_rfl) (fun _ _ _ h => h) (Or.inl ⟨by rfl, ?ay17⟩) T15 ?_
   case ay17 => (intro V hSw; go_simp; try with_reducible rfl)
   try simp only [pu0, puN, pu1, pu2, pu3]
   refine wpAnyH_take (i := 6) (oi := ({ dst := some 23, op := Op.fieldAddr 64 (Operand.tmp 1) 1, type := 0, pos := "lattice.go:16", after := #[{ on := 5, ground := Ground.guard }], guard := some (5, true) } : Oper)) (v := undef) rfl (by kernel_rfl) (by kernel_rfl) (by kernel_rfl) (fun _ _ _ h => h) (Or.inr ⟨by rfl, rfl⟩) T15 ?_
   try simp only [pu0, puN, pu1, pu2, pu3]
   refine wpAnyH_take (i := 7) (oi := ({ dst := some 24, op := Op.load 31 (Operand.tmp 23), type := 31, pos := "lattice.go:16", after := #[{ on := 6, ground := Ground.data }, { on := 5, ground := Ground.guard }], guard := some (5, true) } : Oper)) (v := undef) rfl (by kernel_rfl) (by kernel_rfl) (by kernel_rfl) (fun _ _ _ h => h) (Or.inr ⟨by rfl, rfl⟩) T15 ?_
   try simp only [pu0, puN, pu1, pu2, pu3]
   refine wpAnyH_take (i := 8) (oi := ({ dst := some 25, op := Op.call { callee := Callee.value (Operand.func 86), args := #[Operand.tmp 24], argTypes := #[31] }, type := 4, pos := "lattice.go:16", after := #[{ on := 7, ground := Ground.data }, { on := 5, ground := Ground.chain }, { on := 5, ground := Ground.guard }], guard := some (5, true) } : Oper)) (v := undef) rfl (by kernel_rfl) (by kernel_rfl) (by kernel_rfl) (fun _ _ _ h => h) (Or.inr ⟨by rfl, rfl⟩) T15 ?_
   try simp only [pu0, puN, pu1, pu2, pu3]
   refine wpAnyH_take (i := 9) (oi := ({ dst := some 26, op := Op.pick (Operand.tmp 22) (Operand.tmp 25) (Operand.const (Value.bool false)), type := 4, pos := "lattice.go:16", after := #[{ on := 5, ground := Ground.data }, { on := 8, ground := Ground.data }], guard := none } : Oper)) (v := ?av18) rfl (by kernel_rfl) (by kernel_rfl) (by kernel_rfl) (fun _ _ _ h => h) (Or.inl ⟨by rfl, ?ay18⟩) T15 ?_
   case ay18 => (intro V hSw; go_simp; try with_reducible rfl)
   try simp only [pu0, puN, pu1, pu2, pu3]
   refine wpAnyH_take (i := 10) (oi := ({ dst := some 2, op := Op.assign (Operand.tmp 26), type := 4, pos := "lattice.go:16", after := #[{ on := 9, ground := Ground.data }, { on := 8, ground := Ground.chain }, { on := 0, ground := Ground.phase }, { on := 1, ground := Ground.phase }, { on := 2, ground := Ground.phase }, { on := 3, ground := Ground.phase }, { on := 4, ground := Ground.phase }, { on := 5, ground := Ground.phase }, { on := 6, ground := Ground.phase }, { on := 7, ground := Ground.phase }, { on := 8, ground := Ground.phase }, { on := 9, ground := Ground.phase }], guard := none } : Oper)) (v := ?av19) rfl (by kernel_rfl) (by kernel_rfl) (by kernel_rfl) (fun _ _ _ h => h) (Or.inl ⟨by rfl, ?ay19⟩) T15 ?_
   case ay19 => (intro V hSw; go_simp; try with_reducible rfl)
   try simp only [pu0, puN, pu1, pu2, pu3]
   refine wpAnyH_done (by kernel_rfl) ?_ _
   try go_wp2
   go_ret
   exact ⟨ret_bool (by rw [HE.out]; simp [hn]), B0.out.trans (T15.mono B0.out.size)⟩
 by_cases hk4 : k = 4
 ·subst hk4
  have q1 := fun V : World => eql64 4 d n 4 0 n s ⟨#[]⟩ V
  by_cases hd : d = 0 ∧ s = ⟨#[]⟩
  ·have hx : decide (((4 : Int) = 4) ∧ (d = 0 ∧ s = ⟨#[]⟩) ∧ n = n) = true := by simp [hd]
   rw [hx] at q1
   clear hx
   by_cases hn : 0 ≤ n
   ·have e1 : decide (0 ≤ n) = true := decide_eq_true hn
    have hR : R = true := by rw [HE.out]; simp [← EN.out, hd, hn]
    clear hn hd
    go_wp2
    go_ret
    exact ⟨by first | rfl | exact ret_bool hR.symm, B0.out⟩
   ·have e1 : decide (0 ≤ n) = false := decide_eq_false hn
    have hR : R = false := by rw [HE.out]; simp [hn]
    clear hn hd
    go_wp2
    go_ret
    exact ⟨by first | rfl | exact ret_bool hR.symm, B0.out⟩
  ·have hx : decide (((4 : Int) = 4) ∧ (d = 0 ∧ s = ⟨#[]⟩) ∧ n = n) = false := by simp [hd]
   rw [hx] at q1
   have hR : R = false := by rw [HE.out]; simp [← EN.out, hd]
   clear hx hd
   go_wp2
   go_ret
   exact ⟨by first | rfl | exact ret_bool hR.symm, B0.out⟩
 have hR : R = false := by rw [HE.out]; simp [hk0, hk1, hk2, hk3, hk4, hk5]
 go_wp2
 go_ret
 exact ⟨by first | rfl | exact ret_bool hR.symm, B0.out⟩
end Go.Proofs.YtmaknddlgppinaaGreatDoor
