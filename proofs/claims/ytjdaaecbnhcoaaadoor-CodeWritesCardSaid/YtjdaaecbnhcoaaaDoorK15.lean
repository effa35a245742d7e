/-
  WALK: what is wrong with an instruction by itself.
-/
import Derived.Test.YtjdaaecbnhcoaaaDoorK14
import Derived.Deep.DeepCutAuto
set_option linter.unusedVariables false
set_option linter.unusedSimpArgs false
namespace Go.Proofs.YtjdaaecbnhcoaaaDoor
open Go.RowKit

set_option maxRecDepth 1000000 in
set_option maxHeartbeats 12800000 in
theorem instrError_any (B : Nat) (x : In) (Ak At : Option Addr) (ck ct : Nat) (pc : Int) (w : World) (hk : x.keys.length ≤ 1000000000000000) (hr : IRow B w (.slice Ak x.keys.length ck) x.keys) (hB : B ≤ w.heap.size) :
    Calls Tryd.prog 36 #[.agg #[.int .i64 x.pc, .int .i64 x.op, .int .i64 x.n, .slice Ak x.keys.length ck, .slice At x.to.length ct], .int .i64 pc] w fun e w' => e = .returned (.int .i64 (errP x pc)) ∧ Below w.heap.size w w' := by
  obtain ⟨f, hf⟩ : ∃ f, formP x.op = f := ⟨_, rfl⟩
  have HFO := fun W => Lib.hid (Form_any x.op W)
  rw [hf] at HFO
  have HF := Lib.hid hf
  have M := heap_new w (.cells #[.int .i64 x.pc, .int .i64 x.op, .int .i64 x.n, .slice Ak x.keys.length ck, .slice At x.to.length ct] 43)
  have c0 := cells_of M 0
  have c1 := cells_of M 1
  have c2 := cells_of M 2
  have c3 := cells_of M 3
  have c4 := cells_of M 4
  have B0 := Lib.hid ((Below.refl w.heap.size w).alloc (Nat.le_refl _) (.cells #[.int .i64 x.pc, .int .i64 x.op, .int .i64 x.n, .slice Ak x.keys.length ck, .slice At x.to.length ct] 43))
  have HR := Lib.hid hr
  clear hr
  by_cases hf0 : f = 0
  · have HE : errP x pc = 11 := by unfold errP; rw [HF.out, if_pos hf0]
    rw [HE]
    subst hf0
    clear HE hf M c0 c1 c2 c3 c4
    go_enter Tryd.func36, Tryd.ntmps36
    go_wp2_with fail
    refine (HFO _).out.mono ?_
    rintro e w3 ⟨rfl, rfl⟩
    go_wp2
    go_ret
    exact ⟨rfl, B0.out⟩
  · have HE : errP x pc = if goodB x pc = true then 0 else 1 := by unfold errP; rw [HF.out, if_neg hf0]
    rw [HE]
    have e0 : (f == 0) = false := by simpa using hf0
    clear HE hf hf0
    have HM := fun W => Lib.hid (maxNumber_any f W)
    obtain ⟨mx, hmx⟩ : ∃ m, maxP f = m := ⟨_, rfl⟩
    rw [hmx] at HM
    have HMX := Lib.hid hmx
    have HJ := fun W => Lib.hid (jumpsOf_any x Ak At ck ct W hk)
    obtain ⟨j, hj⟩ : ∃ j, jmpP x = j := ⟨_, rfl⟩
    rw [hj] at HJ
    have HJX := Lib.hid hj
    obtain ⟨kb, hkb⟩ : ∃ b, keyB f x.keys = b := ⟨_, rfl⟩
    have HK := fun (W : World) (hW : Below w.heap.size w W) => Lib.hid (rightKeys_any B f x.keys _ W (HR.out.below hW hB) (Nat.le_trans hB hW.size))
    rw [hkb] at HK
    have HKB := Lib.hid hkb
    have HG := Lib.hid (show goodB x pc = (decide (0 ≤ x.n) && decide (x.n ≤ mx) && decide (x.pc = pc) && decide (x.to.length = j) && kb) by unfold goodB; rw [HF.out, HMX.out, HJX.out, HKB.out])
    clear hmx hj hkb M
    obtain ⟨g, hg⟩ : ∃ g, goodB x pc = g := ⟨_, rfl⟩
    rw [hg]
    rw [hg] at HG
    clear hg
    obtain ⟨W0, hW0⟩ : ∃ W0, W0 = w.alloc (.cells #[.int .i64 x.pc, .int .i64 x.op, .int .i64 x.n, .slice Ak x.keys.length ck, .slice At x.to.length ct] 43) := ⟨_, rfl⟩
    have hz : w.heap.size < W0.heap.size := by rw [hW0]; simp
    rw [← hW0] at c0 c1 c2 c3 c4 B0
    have HW0 := Lib.hid hW0
    clear hW0
    simp at c0 c1 c2 c3 c4
    go_enter Tryd.func36, Tryd.ntmps36
    go_wp2_with fail
    refine (HFO _).out.mono ?_
    rintro e w3 ⟨rfl, rfl⟩
    rw [← HW0.out]
    go_upto_region 4 with fail
    go_cut [41] (fun r wx => r = .bool (!g) ∧ Below w.heap.size w wx)
    case first =>
      by_cases h1 : x.n < 0
      · have HGG := Lib.hid (show g = false by rw [HG.out]; simp; omega)
        refine wp_region_held_drew (S := (fun w' => w'.cell? ⟨w.heap.size, 0, none⟩ = some (.int .i64 x.pc) ∧ w'.cell? ⟨w.heap.size, 1, none⟩ = some (.int .i64 x.op) ∧ w'.cell? ⟨w.heap.size, 2, none⟩ = some (.int .i64 x.n) ∧ w'.cell? ⟨w.heap.size, 3, none⟩ = some (.slice Ak x.keys.length ck) ∧ w'.cell? ⟨w.heap.size, 4, none⟩ = some (.slice At x.to.length ct) ∧ w.heap.size < w'.heap.size ∧ Below w.heap.size w w')) (by kernel_rfl) (⟨c0, c1, c2, c3, c4, hz, B0.out.drew⟩) (fun hHeld => ?_)
        refine wpAnyH_take (i := 0) (oi := ({ dst := some 11, op := Op.fieldAddr 43 (Operand.tmp 2) 2, type := 0, pos := "right.go:29", after := #[], guard := none } : Oper)) (v := ?v1x0) rfl (by kernel_rfl) (by kernel_rfl) (by kernel_rfl) (fun _ _ _ h => h) (Or.inl ⟨by rfl, ?hy1x0⟩) hHeld ?_
        case hy1x0 => ((intro w hSw); (try dsimp only at hSw); go_simp; try with_reducible rfl)
        try simp only [Act.put, List.setIfInBounds_toArray, List.set_cons_zero, List.set_cons_succ]
        refine wpAnyH_take (i := 1) (oi := ({ dst := some 12, op := Op.load 3 (Operand.tmp 11), type := 3, pos := "right.go:29", after := #[{ on := 0, ground := Ground.data }], guard := none } : Oper)) (v := ?v1x1) rfl (by kernel_rfl) (by kernel_rfl) (by kernel_rfl) (fun _ _ _ h => h) (Or.inl ⟨by rfl, ?hy1x1⟩) hHeld ?_
        case hy1x1 => ((intro w hSw); (try dsimp only at hSw); go_simp; try with_reducible rfl)
        try simp only [Act.put, List.setIfInBounds_toArray, List.set_cons_zero, List.set_cons_succ]
        refine wpAnyH_take (i := 2) (oi := ({ dst := some 13, op := Op.binOp BinOp.lss 3 (Operand.tmp 12) (Operand.const (Value.int IntKind.i64 0)) 3, type := 4, pos := "right.go:29", after := #[{ on := 1, ground := Ground.data }], guard := none } : Oper)) (v := ?v1x2) rfl (by kernel_rfl) (by kernel_rfl) (by kernel_rfl) (fun _ _ _ h => h) (Or.inl ⟨by rfl, ?hy1x2⟩) hHeld ?_
        case hy1x2 => ((intro w hSw); (try dsimp only at hSw); go_simp; try with_reducible rfl)
        try simp only [Act.put, List.setIfInBounds_toArray, List.set_cons_zero, List.set_cons_succ]
        refine wpAnyH_take (i := 3) (oi := ({ dst := some 14, op := Op.move (Operand.tmp 13), type := 4, pos := "right.go:29", after := #[{ on := 2, ground := Ground.data }], guard := none } : Oper)) (v := ?v1x3) rfl (by kernel_rfl) (by kernel_rfl) (by kernel_rfl) (fun _ _ _ h => h) (Or.inl ⟨by rfl, ?hy1x3⟩) hHeld ?_
        case hy1x3 => ((intro w hSw); (try dsimp only at hSw); go_simp; try with_reducible rfl)
        try simp only [Act.put, List.setIfInBounds_toArray, List.set_cons_zero, List.set_cons_succ]
        refine wpAnyH_take (i := 4) (oi := ({ dst := some 15, op := Op.fieldAddr 43 (Operand.tmp 2) 2, type := 0, pos := "right.go:29", after := #[{ on := 3, ground := Ground.guard }], guard := some (3, false) } : Oper)) (v := undef) rfl (by kernel_rfl) (by kernel_rfl) (by kernel_rfl) (fun _ _ _ h => h) (Or.inr ⟨by rfl, rfl⟩) hHeld ?_
        try simp only [Act.put, List.setIfInBounds_toArray, List.set_cons_zero, List.set_cons_succ]
        refine wpAnyH_take (i := 5) (oi := ({ dst := some 16, op := Op.load 3 (Operand.tmp 15), type := 3, pos := "right.go:29", after := #[{ on := 4, ground := Ground.data }, { on := 3, ground := Ground.guard }], guard := some (3, false) } : Oper)) (v := undef) rfl (by kernel_rfl) (by kernel_rfl) (by kernel_rfl) (fun _ _ _ h => h) (Or.inr ⟨by rfl, rfl⟩) hHeld ?_
        try simp only [Act.put, List.setIfInBounds_toArray, List.set_cons_zero, List.set_cons_succ]
        refine wpAnyH_take (i := 6) (oi := ({ dst := some 17, op := Op.move (Operand.tmp 5), type := 5, pos := "right.go:29", after := #[{ on := 3, ground := Ground.guard }], guard := some (3, false) } : Oper)) (v := undef) rfl (by kernel_rfl) (by kernel_rfl) (by kernel_rfl) (fun _ _ _ h => h) (Or.inr ⟨by rfl, rfl⟩) hHeld ?_
        try simp only [Act.put, List.setIfInBounds_toArray, List.set_cons_zero, List.set_cons_succ]
        refine wpAnyH_take (i := 7) (oi := ({ dst := some 18, op := Op.call { callee := Callee.value (Operand.func 46), args := #[Operand.tmp 17], argTypes := #[5] }, type := 3, pos := "right.go:29", after := #[{ on := 6, ground := Ground.data }, { on := 3, ground := Ground.chain }, { on := 3, ground := Ground.guard }], guard := some (3, false) } : Oper)) (v := undef) rfl (by kernel_rfl) (by kernel_rfl) (by kernel_rfl) (fun _ _ _ h => h) (Or.inr ⟨by rfl, rfl⟩) hHeld ?_
        try simp only [Act.put, List.setIfInBounds_toArray, List.set_cons_zero, List.set_cons_succ]
        refine wpAnyH_take (i := 8) (oi := ({ dst := some 19, op := Op.binOp BinOp.gtr 3 (Operand.tmp 16) (Operand.tmp 18) 3, type := 4, pos := "right.go:29", after := #[{ on := 5, ground := Ground.data }, { on := 7, ground := Ground.data }, { on := 3, ground := Ground.guard }], guard := some (3, false) } : Oper)) (v := undef) rfl (by kernel_rfl) (by kernel_rfl) (by kernel_rfl) (fun _ _ _ h => h) (Or.inr ⟨by rfl, rfl⟩) hHeld ?_
        try simp only [Act.put, List.setIfInBounds_toArray, List.set_cons_zero, List.set_cons_succ]
        refine wpAnyH_take (i := 9) (oi := ({ dst := some 20, op := Op.pick (Operand.tmp 14) (Operand.const (Value.bool true)) (Operand.tmp 19), type := 4, pos := "right.go:29", after := #[{ on := 3, ground := Ground.data }, { on := 8, ground := Ground.data }], guard := none } : Oper)) (v := ?v1x9) rfl (by kernel_rfl) (by kernel_rfl) (by kernel_rfl) (fun _ _ _ h => h) (Or.inl ⟨by rfl, ?hy1x9⟩) hHeld ?_
        case hy1x9 => ((intro w hSw); (try dsimp only at hSw); go_simp; try with_reducible rfl)
        try simp only [Act.put, List.setIfInBounds_toArray, List.set_cons_zero, List.set_cons_succ]
        refine wpAnyH_take (i := 10) (oi := ({ dst := some 21, op := Op.move (Operand.tmp 20), type := 4, pos := "right.go:29", after := #[{ on := 9, ground := Ground.data }, { on := 7, ground := Ground.chain }], guard := none } : Oper)) (v := ?v1x10) rfl (by kernel_rfl) (by kernel_rfl) (by kernel_rfl) (fun _ _ _ h => h) (Or.inl ⟨by rfl, ?hy1x10⟩) hHeld ?_
        case hy1x10 => ((intro w hSw); (try dsimp only at hSw); go_simp; try with_reducible rfl)
        try simp only [Act.put, List.setIfInBounds_toArray, List.set_cons_zero, List.set_cons_succ]
        refine wpAnyH_take (i := 11) (oi := ({ dst := some 22, op := Op.fieldAddr 43 (Operand.tmp 2) 0, type := 0, pos := "right.go:29", after := #[{ on := 10, ground := Ground.guard }], guard := some (10, false) } : Oper)) (v := undef) rfl (by kernel_rfl) (by kernel_rfl) (by kernel_rfl) (fun _ _ _ h => h) (Or.inr ⟨by rfl, rfl⟩) hHeld ?_
        try simp only [Act.put, List.setIfInBounds_toArray, List.set_cons_zero, List.set_cons_succ]
        refine wpAnyH_take (i := 12) (oi := ({ dst := some 23, op := Op.load 3 (Operand.tmp 22), type := 3, pos := "right.go:29", after := #[{ on := 11, ground := Ground.data }, { on := 10, ground := Ground.guard }], guard := some (10, false) } : Oper)) (v := undef) rfl (by kernel_rfl) (by kernel_rfl) (by kernel_rfl) (fun _ _ _ h => h) (Or.inr ⟨by rfl, rfl⟩) hHeld ?_
        try simp only [Act.put, List.setIfInBounds_toArray, List.set_cons_zero, List.set_cons_succ]
        refine wpAnyH_take (i := 13) (oi := ({ dst := some 24, op := Op.move (Operand.tmp 1), type := 3, pos := "right.go:29", after := #[{ on := 10, ground := Ground.guard }], guard := some (10, false) } : Oper)) (v := undef) rfl (by kernel_rfl) (by kernel_rfl) (by kernel_rfl) (fun _ _ _ h => h) (Or.inr ⟨by rfl, rfl⟩) hHeld ?_
        try simp only [Act.put, List.setIfInBounds_toArray, List.set_cons_zero, List.set_cons_succ]
        refine wpAnyH_take (i := 14) (oi := ({ dst := some 25, op := Op.binOp BinOp.neq 3 (Operand.tmp 23) (Operand.tmp 24) 3, type := 4, pos := "right.go:29", after := #[{ on := 12, ground := Ground.data }, { on := 13, ground := Ground.data }, { on := 10, ground := Ground.guard }], guard := some (10, false) } : Oper)) (v := undef) rfl (by kernel_rfl) (by kernel_rfl) (by kernel_rfl) (fun _ _ _ h => h) (Or.inr ⟨by rfl, rfl⟩) hHeld ?_
        try simp only [Act.put, List.setIfInBounds_toArray, List.set_cons_zero, List.set_cons_succ]
        refine wpAnyH_take (i := 15) (oi := ({ dst := some 26, op := Op.pick (Operand.tmp 21) (Operand.const (Value.bool true)) (Operand.tmp 25), type := 4, pos := "right.go:29", after := #[{ on := 10, ground := Ground.data }, { on := 14, ground := Ground.data }], guard := none } : Oper)) (v := ?v1x15) rfl (by kernel_rfl) (by kernel_rfl) (by kernel_rfl) (fun _ _ _ h => h) (Or.inl ⟨by rfl, ?hy1x15⟩) hHeld ?_
        case hy1x15 => ((intro w hSw); (try dsimp only at hSw); go_simp; try with_reducible rfl)
        try simp only [Act.put, List.setIfInBounds_toArray, List.set_cons_zero, List.set_cons_succ]
        refine wpAnyH_take (i := 16) (oi := ({ dst := some 27, op := Op.move (Operand.tmp 26), type := 4, pos := "right.go:29", after := #[{ on := 15, ground := Ground.data }, { on := 10, ground := Ground.chain }], guard := none } : Oper)) (v := ?v1x16) rfl (by kernel_rfl) (by kernel_rfl) (by kernel_rfl) (fun _ _ _ h => h) (Or.inl ⟨by rfl, ?hy1x16⟩) hHeld ?_
        case hy1x16 => ((intro w hSw); (try dsimp only at hSw); go_simp; try with_reducible rfl)
        try simp only [Act.put, List.setIfInBounds_toArray, List.set_cons_zero, List.set_cons_succ]
        refine wpAnyH_take (i := 17) (oi := ({ dst := some 28, op := Op.fieldAddr 43 (Operand.tmp 2) 4, type := 0, pos := "right.go:29", after := #[{ on := 16, ground := Ground.guard }], guard := some (16, false) } : Oper)) (v := undef) rfl (by kernel_rfl) (by kernel_rfl) (by kernel_rfl) (fun _ _ _ h => h) (Or.inr ⟨by rfl, rfl⟩) hHeld ?_
        try simp only [Act.put, List.setIfInBounds_toArray, List.set_cons_zero, List.set_cons_succ]
        refine wpAnyH_take (i := 18) (oi := ({ dst := some 29, op := Op.load 41 (Operand.tmp 28), type := 41, pos := "right.go:29", after := #[{ on := 17, ground := Ground.data }, { on := 16, ground := Ground.guard }], guard := some (16, false) } : Oper)) (v := undef) rfl (by kernel_rfl) (by kernel_rfl) (by kernel_rfl) (fun _ _ _ h => h) (Or.inr ⟨by rfl, rfl⟩) hHeld ?_
        try simp only [Act.put, List.setIfInBounds_toArray, List.set_cons_zero, List.set_cons_succ]
        refine wpAnyH_take (i := 19) (oi := ({ dst := some 30, op := Op.call { callee := Callee.builtin Builtin.len, args := #[Operand.tmp 29], argTypes := #[41] }, type := 3, pos := "right.go:29", after := #[{ on := 18, ground := Ground.data }, { on := 16, ground := Ground.guard }], guard := some (16, false) } : Oper)) (v := undef) rfl (by kernel_rfl) (by kernel_rfl) (by kernel_rfl) (fun _ _ _ h => h) (Or.inr ⟨by rfl, rfl⟩) hHeld ?_
        try simp only [Act.put, List.setIfInBounds_toArray, List.set_cons_zero, List.set_cons_succ]
        refine wpAnyH_take (i := 20) (oi := ({ dst := some 31, op := Op.load 43 (Operand.tmp 2), type := 43, pos := "right.go:29", after := #[{ on := 16, ground := Ground.guard }], guard := some (16, false) } : Oper)) (v := undef) rfl (by kernel_rfl) (by kernel_rfl) (by kernel_rfl) (fun _ _ _ h => h) (Or.inr ⟨by rfl, rfl⟩) hHeld ?_
        try simp only [Act.put, List.setIfInBounds_toArray, List.set_cons_zero, List.set_cons_succ]
        refine wpAnyH_take (i := 21) (oi := ({ dst := some 32, op := Op.call { callee := Callee.value (Operand.func 47), args := #[Operand.tmp 31], argTypes := #[43] }, type := 3, pos := "right.go:29", after := #[{ on := 20, ground := Ground.data }, { on := 16, ground := Ground.chain }, { on := 16, ground := Ground.guard }], guard := some (16, false) } : Oper)) (v := undef) rfl (by kernel_rfl) (by kernel_rfl) (by kernel_rfl) (fun _ _ _ h => h) (Or.inr ⟨by rfl, rfl⟩) hHeld ?_
        try simp only [Act.put, List.setIfInBounds_toArray, List.set_cons_zero, List.set_cons_succ]
        refine wpAnyH_take (i := 22) (oi := ({ dst := some 33, op := Op.binOp BinOp.neq 3 (Operand.tmp 30) (Operand.tmp 32) 3, type := 4, pos := "right.go:29", after := #[{ on := 19, ground := Ground.data }, { on := 21, ground := Ground.data }, { on := 16, ground := Ground.guard }], guard := some (16, false) } : Oper)) (v := undef) rfl (by kernel_rfl) (by kernel_rfl) (by kernel_rfl) (fun _ _ _ h => h) (Or.inr ⟨by rfl, rfl⟩) hHeld ?_
        try simp only [Act.put, List.setIfInBounds_toArray, List.set_cons_zero, List.set_cons_succ]
        refine wpAnyH_take (i := 23) (oi := ({ dst := some 34, op := Op.pick (Operand.tmp 27) (Operand.const (Value.bool true)) (Operand.tmp 33), type := 4, pos := "right.go:29", after := #[{ on := 16, ground := Ground.data }, { on := 22, ground := Ground.data }], guard := none } : Oper)) (v := ?v1x23) rfl (by kernel_rfl) (by kernel_rfl) (by kernel_rfl) (fun _ _ _ h => h) (Or.inl ⟨by rfl, ?hy1x23⟩) hHeld ?_
        case hy1x23 => ((intro w hSw); (try dsimp only at hSw); go_simp; try with_reducible rfl)
        try simp only [Act.put, List.setIfInBounds_toArray, List.set_cons_zero, List.set_cons_succ]
        refine wpAnyH_take (i := 24) (oi := ({ dst := some 35, op := Op.move (Operand.tmp 34), type := 4, pos := "right.go:29", after := #[{ on := 23, ground := Ground.data }, { on := 21, ground := Ground.chain }], guard := none } : Oper)) (v := ?v1x24) rfl (by kernel_rfl) (by kernel_rfl) (by kernel_rfl) (fun _ _ _ h => h) (Or.inl ⟨by rfl, ?hy1x24⟩) hHeld ?_
        case hy1x24 => ((intro w hSw); (try dsimp only at hSw); go_simp; try with_reducible rfl)
        try simp only [Act.put, List.setIfInBounds_toArray, List.set_cons_zero, List.set_cons_succ]
        refine wpAnyH_take (i := 25) (oi := ({ dst := some 36, op := Op.move (Operand.tmp 5), type := 5, pos := "right.go:29", after := #[{ on := 24, ground := Ground.guard }], guard := some (24, false) } : Oper)) (v := undef) rfl (by kernel_rfl) (by kernel_rfl) (by kernel_rfl) (fun _ _ _ h => h) (Or.inr ⟨by rfl, rfl⟩) hHeld ?_
        try simp only [Act.put, List.setIfInBounds_toArray, List.set_cons_zero, List.set_cons_succ]
        refine wpAnyH_take (i := 26) (oi := ({ dst := some 37, op := Op.fieldAddr 43 (Operand.tmp 2) 3, type := 0, pos := "right.go:29", after := #[{ on := 24, ground := Ground.guard }], guard := some (24, false) } : Oper)) (v := undef) rfl (by kernel_rfl) (by kernel_rfl) (by kernel_rfl) (fun _ _ _ h => h) (Or.inr ⟨by rfl, rfl⟩) hHeld ?_
        try simp only [Act.put, List.setIfInBounds_toArray, List.set_cons_zero, List.set_cons_succ]
        refine wpAnyH_take (i := 27) (oi := ({ dst := some 38, op := Op.load 41 (Operand.tmp 37), type := 41, pos := "right.go:29", after := #[{ on := 26, ground := Ground.data }, { on := 24, ground := Ground.guard }], guard := some (24, false) } : Oper)) (v := undef) rfl (by kernel_rfl) (by kernel_rfl) (by kernel_rfl) (fun _ _ _ h => h) (Or.inr ⟨by rfl, rfl⟩) hHeld ?_
        try simp only [Act.put, List.setIfInBounds_toArray, List.set_cons_zero, List.set_cons_succ]
        refine wpAnyH_take (i := 28) (oi := ({ dst := some 39, op := Op.call { callee := Callee.value (Operand.func 48), args := #[Operand.tmp 36, Operand.tmp 38], argTypes := #[5, 41] }, type := 4, pos := "right.go:29", after := #[{ on := 25, ground := Ground.data }, { on := 27, ground := Ground.data }, { on := 24, ground := Ground.chain }, { on := 24, ground := Ground.guard }], guard := some (24, false) } : Oper)) (v := undef) rfl (by kernel_rfl) (by kernel_rfl) (by kernel_rfl) (fun _ _ _ h => h) (Or.inr ⟨by rfl, rfl⟩) hHeld ?_
        try simp only [Act.put, List.setIfInBounds_toArray, List.set_cons_zero, List.set_cons_succ]
        refine wpAnyH_take (i := 29) (oi := ({ dst := some 40, op := Op.unOp UnOp.not 4 (Operand.tmp 39), type := 4, pos := "right.go:29", after := #[{ on := 28, ground := Ground.data }, { on := 24, ground := Ground.guard }], guard := some (24, false) } : Oper)) (v := undef) rfl (by kernel_rfl) (by kernel_rfl) (by kernel_rfl) (fun _ _ _ h => h) (Or.inr ⟨by rfl, rfl⟩) hHeld ?_
        try simp only [Act.put, List.setIfInBounds_toArray, List.set_cons_zero, List.set_cons_succ]
        refine wpAnyH_take (i := 30) (oi := ({ dst := some 41, op := Op.pick (Operand.tmp 35) (Operand.const (Value.bool true)) (Operand.tmp 40), type := 4, pos := "right.go:29", after := #[{ on := 24, ground := Ground.data }, { on := 29, ground := Ground.data }], guard := none } : Oper)) (v := ?v1x30) rfl (by kernel_rfl) (by kernel_rfl) (by kernel_rfl) (fun _ _ _ h => h) (Or.inl ⟨by rfl, ?hy1x30⟩) hHeld ?_
        case hy1x30 => ((intro w hSw); (try dsimp only at hSw); go_simp; try with_reducible rfl)
        try simp only [Act.put, List.setIfInBounds_toArray, List.set_cons_zero, List.set_cons_succ]
        refine wpAnyH_done (by kernel_rfl) ?_ _
        have hbel := hHeld.2.2.2.2.2.2
        clear hHeld
        go_wp2_with fail
        go_meet
        exact ⟨by rw [HGG.out]; rfl, hbel⟩
      · have h1' : 0 ≤ x.n := by omega
        have d1 : decide (x.n < 0) = false := by simpa using h1'
        by_cases h2 : mx < x.n
        · have d2 : decide (mx < x.n) = true := by simpa using h2
          have HGG := Lib.hid (show g = false by rw [HG.out]; simp; omega)
          clear h1
          refine wp_region_held_drew (S := (fun w' => w'.cell? ⟨w.heap.size, 0, none⟩ = some (.int .i64 x.pc) ∧ w'.cell? ⟨w.heap.size, 1, none⟩ = some (.int .i64 x.op) ∧ w'.cell? ⟨w.heap.size, 2, none⟩ = some (.int .i64 x.n) ∧ w'.cell? ⟨w.heap.size, 3, none⟩ = some (.slice Ak x.keys.length ck) ∧ w'.cell? ⟨w.heap.size, 4, none⟩ = some (.slice At x.to.length ct) ∧ w.heap.size < w'.heap.size ∧ Below w.heap.size w w')) (by kernel_rfl) (⟨c0, c1, c2, c3, c4, hz, B0.out.drew⟩) (fun hHeld => ?_)
          refine wpAnyH_take (i := 0) (oi := ({ dst := some 11, op := Op.fieldAddr 43 (Operand.tmp 2) 2, type := 0, pos := "right.go:29", after := #[], guard := none } : Oper)) (v := ?v2x0) rfl (by kernel_rfl) (by kernel_rfl) (by kernel_rfl) (fun _ _ _ h => h) (Or.inl ⟨by rfl, ?hy2x0⟩) hHeld ?_
          case hy2x0 => ((intro w hSw); (try dsimp only at hSw); go_simp; try with_reducible rfl)
          try simp only [Act.put, List.setIfInBounds_toArray, List.set_cons_zero, List.set_cons_succ]
          refine wpAnyH_take (i := 1) (oi := ({ dst := some 12, op := Op.load 3 (Operand.tmp 11), type := 3, pos := "right.go:29", after := #[{ on := 0, ground := Ground.data }], guard := none } : Oper)) (v := ?v2x1) rfl (by kernel_rfl) (by kernel_rfl) (by kernel_rfl) (fun _ _ _ h => h) (Or.inl ⟨by rfl, ?hy2x1⟩) hHeld ?_
          case hy2x1 => ((intro w hSw); (try dsimp only at hSw); go_simp; try with_reducible rfl)
          try simp only [Act.put, List.setIfInBounds_toArray, List.set_cons_zero, List.set_cons_succ]
          refine wpAnyH_take (i := 2) (oi := ({ dst := some 13, op := Op.binOp BinOp.lss 3 (Operand.tmp 12) (Operand.const (Value.int IntKind.i64 0)) 3, type := 4, pos := "right.go:29", after := #[{ on := 1, ground := Ground.data }], guard := none } : Oper)) (v := ?v2x2) rfl (by kernel_rfl) (by kernel_rfl) (by kernel_rfl) (fun _ _ _ h => h) (Or.inl ⟨by rfl, ?hy2x2⟩) hHeld ?_
          case hy2x2 => ((intro w hSw); (try dsimp only at hSw); go_simp; try with_reducible rfl)
          try simp only [Act.put, List.setIfInBounds_toArray, List.set_cons_zero, List.set_cons_succ]
          refine wpAnyH_take (i := 3) (oi := ({ dst := some 14, op := Op.move (Operand.tmp 13), type := 4, pos := "right.go:29", after := #[{ on := 2, ground := Ground.data }], guard := none } : Oper)) (v := ?v2x3) rfl (by kernel_rfl) (by kernel_rfl) (by kernel_rfl) (fun _ _ _ h => h) (Or.inl ⟨by rfl, ?hy2x3⟩) hHeld ?_
          case hy2x3 => ((intro w hSw); (try dsimp only at hSw); go_simp; try with_reducible rfl)
          try simp only [Act.put, List.setIfInBounds_toArray, List.set_cons_zero, List.set_cons_succ]
          refine wpAnyH_take (i := 4) (oi := ({ dst := some 15, op := Op.fieldAddr 43 (Operand.tmp 2) 2, type := 0, pos := "right.go:29", after := #[{ on := 3, ground := Ground.guard }], guard := some (3, false) } : Oper)) (v := ?v2x4) rfl (by kernel_rfl) (by kernel_rfl) (by kernel_rfl) (fun _ _ _ h => h) (Or.inl ⟨by rfl, ?hy2x4⟩) hHeld ?_
          case hy2x4 => ((intro w hSw); (try dsimp only at hSw); go_simp; try with_reducible rfl)
          try simp only [Act.put, List.setIfInBounds_toArray, List.set_cons_zero, List.set_cons_succ]
          refine wpAnyH_take (i := 5) (oi := ({ dst := some 16, op := Op.load 3 (Operand.tmp 15), type := 3, pos := "right.go:29", after := #[{ on := 4, ground := Ground.data }, { on := 3, ground := Ground.guard }], guard := some (3, false) } : Oper)) (v := ?v2x5) rfl (by kernel_rfl) (by kernel_rfl) (by kernel_rfl) (fun _ _ _ h => h) (Or.inl ⟨by rfl, ?hy2x5⟩) hHeld ?_
          case hy2x5 => ((intro w hSw); (try dsimp only at hSw); go_simp; try with_reducible rfl)
          try simp only [Act.put, List.setIfInBounds_toArray, List.set_cons_zero, List.set_cons_succ]
          refine wpAnyH_take (i := 6) (oi := ({ dst := some 17, op := Op.move (Operand.tmp 5), type := 5, pos := "right.go:29", after := #[{ on := 3, ground := Ground.guard }], guard := some (3, false) } : Oper)) (v := ?v2x6) rfl (by kernel_rfl) (by kernel_rfl) (by kernel_rfl) (fun _ _ _ h => h) (Or.inl ⟨by rfl, ?hy2x6⟩) hHeld ?_
          case hy2x6 => ((intro w hSw); (try dsimp only at hSw); go_simp; try with_reducible rfl)
          try simp only [Act.put, List.setIfInBounds_toArray, List.set_cons_zero, List.set_cons_succ]
          refine wpAnyH_ready (rs := [7]) (by kernel_rfl) (by simp) ?_
          refine AllReadyH.cons (o := ({ dst := some 18, op := Op.call { callee := Callee.value (Operand.func 46), args := #[Operand.tmp 17], argTypes := #[5] }, type := 3, pos := "right.go:29", after := #[{ on := 6, ground := Ground.data }, { on := 3, ground := Ground.chain }, { on := 3, ground := Ground.guard }], guard := some (3, false) } : Oper)) rfl (fun K hK => ?_) AllReadyH.nil
          go_simp
          go_at_call 46
          refine (HM _).out.mono ?_
          rintro e wi ⟨rfl, rfl⟩
          try go_wp2_with fail
          refine hK.out _ _ hHeld (fun hHeld1 => ?_)
          clear hK K hHeld
          try simp only [Act.put, List.setIfInBounds_toArray, List.set_cons_zero, List.set_cons_succ]
          refine wpAnyH_take (i := 8) (oi := ({ dst := some 19, op := Op.binOp BinOp.gtr 3 (Operand.tmp 16) (Operand.tmp 18) 3, type := 4, pos := "right.go:29", after := #[{ on := 5, ground := Ground.data }, { on := 7, ground := Ground.data }, { on := 3, ground := Ground.guard }], guard := some (3, false) } : Oper)) (v := ?v2x8) rfl (by kernel_rfl) (by kernel_rfl) (by kernel_rfl) (fun _ _ _ h => h) (Or.inl ⟨by rfl, ?hy2x8⟩) hHeld1 ?_
          case hy2x8 => ((intro w hSw); (try dsimp only at hSw); go_simp; try with_reducible rfl)
          try simp only [Act.put, List.setIfInBounds_toArray, List.set_cons_zero, List.set_cons_succ]
          refine wpAnyH_take (i := 9) (oi := ({ dst := some 20, op := Op.pick (Operand.tmp 14) (Operand.const (Value.bool true)) (Operand.tmp 19), type := 4, pos := "right.go:29", after := #[{ on := 3, ground := Ground.data }, { on := 8, ground := Ground.data }], guard := none } : Oper)) (v := ?v2x9) rfl (by kernel_rfl) (by kernel_rfl) (by kernel_rfl) (fun _ _ _ h => h) (Or.inl ⟨by rfl, ?hy2x9⟩) hHeld1 ?_
          case hy2x9 => ((intro w hSw); (try dsimp only at hSw); go_simp; try with_reducible rfl)
          try simp only [Act.put, List.setIfInBounds_toArray, List.set_cons_zero, List.set_cons_succ]
          refine wpAnyH_take (i := 10) (oi := ({ dst := some 21, op := Op.move (Operand.tmp 20), type := 4, pos := "right.go:29", after := #[{ on := 9, ground := Ground.data }, { on := 7, ground := Ground.chain }], guard := none } : Oper)) (v := ?v2x10) rfl (by kernel_rfl) (by kernel_rfl) (by kernel_rfl) (fun _ _ _ h => h) (Or.inl ⟨by rfl, ?hy2x10⟩) hHeld1 ?_
          case hy2x10 => ((intro w hSw); (try dsimp only at hSw); go_simp; try with_reducible rfl)
          try simp only [Act.put, List.setIfInBounds_toArray, List.set_cons_zero, List.set_cons_succ]
          refine wpAnyH_take (i := 11) (oi := ({ dst := some 22, op := Op.fieldAddr 43 (Operand.tmp 2) 0, type := 0, pos := "right.go:29", after := #[{ on := 10, ground := Ground.guard }], guard := some (10, false) } : Oper)) (v := undef) rfl (by kernel_rfl) (by kernel_rfl) (by kernel_rfl) (fun _ _ _ h => h) (Or.inr ⟨by rfl, rfl⟩) hHeld1 ?_
          try simp only [Act.put, List.setIfInBounds_toArray, List.set_cons_zero, List.set_cons_succ]
          refine wpAnyH_take (i := 12) (oi := ({ dst := some 23, op := Op.load 3 (Operand.tmp 22), type := 3, pos := "right.go:29", after := #[{ on := 11, ground := Ground.data }, { on := 10, ground := Ground.guard }], guard := some (10, false) } : Oper)) (v := undef) rfl (by kernel_rfl) (by kernel_rfl) (by kernel_rfl) (fun _ _ _ h => h) (Or.inr ⟨by rfl, rfl⟩) hHeld1 ?_
          try simp only [Act.put, List.setIfInBounds_toArray, List.set_cons_zero, List.set_cons_succ]
          refine wpAnyH_take (i := 13) (oi := ({ dst := some 24, op := Op.move (Operand.tmp 1), type := 3, pos := "right.go:29", after := #[{ on := 10, ground := Ground.guard }], guard := some (10, false) } : Oper)) (v := undef) rfl (by kernel_rfl) (by kernel_rfl) (by kernel_rfl) (fun _ _ _ h => h) (Or.inr ⟨by rfl, rfl⟩) hHeld1 ?_
          try simp only [Act.put, List.setIfInBounds_toArray, List.set_cons_zero, List.set_cons_succ]
          refine wpAnyH_take (i := 14) (oi := ({ dst := some 25, op := Op.binOp BinOp.neq 3 (Operand.tmp 23) (Operand.tmp 24) 3, type := 4, pos := "right.go:29", after := #[{ on := 12, ground := Ground.data }, { on := 13, ground := Ground.data }, { on := 10, ground := Ground.guard }], guard := some (10, false) } : Oper)) (v := undef) rfl (by kernel_rfl) (by kernel_rfl) (by kernel_rfl) (fun _ _ _ h => h) (Or.inr ⟨by rfl, rfl⟩) hHeld1 ?_
          try simp only [Act.put, List.setIfInBounds_toArray, List.set_cons_zero, List.set_cons_succ]
          refine wpAnyH_take (i := 15) (oi := ({ dst := some 26, op := Op.pick (Operand.tmp 21) (Operand.const (Value.bool true)) (Operand.tmp 25), type := 4, pos := "right.go:29", after := #[{ on := 10, ground := Ground.data }, { on := 14, ground := Ground.data }], guard := none } : Oper)) (v := ?v2x15) rfl (by kernel_rfl) (by kernel_rfl) (by kernel_rfl) (fun _ _ _ h => h) (Or.inl ⟨by rfl, ?hy2x15⟩) hHeld1 ?_
          case hy2x15 => ((intro w hSw); (try dsimp only at hSw); go_simp; try with_reducible rfl)
          try simp only [Act.put, List.setIfInBounds_toArray, List.set_cons_zero, List.set_cons_succ]
          refine wpAnyH_take (i := 16) (oi := ({ dst := some 27, op := Op.move (Operand.tmp 26), type := 4, pos := "right.go:29", after := #[{ on := 15, ground := Ground.data }, { on := 10, ground := Ground.chain }], guard := none } : Oper)) (v := ?v2x16) rfl (by kernel_rfl) (by kernel_rfl) (by kernel_rfl) (fun _ _ _ h => h) (Or.inl ⟨by rfl, ?hy2x16⟩) hHeld1 ?_
          case hy2x16 => ((intro w hSw); (try dsimp only at hSw); go_simp; try with_reducible rfl)
          try simp only [Act.put, List.setIfInBounds_toArray, List.set_cons_zero, List.set_cons_succ]
          refine wpAnyH_take (i := 17) (oi := ({ dst := some 28, op := Op.fieldAddr 43 (Operand.tmp 2) 4, type := 0, pos := "right.go:29", after := #[{ on := 16, ground := Ground.guard }], guard := some (16, false) } : Oper)) (v := undef) rfl (by kernel_rfl) (by kernel_rfl) (by kernel_rfl) (fun _ _ _ h => h) (Or.inr ⟨by rfl, rfl⟩) hHeld1 ?_
          try simp only [Act.put, List.setIfInBounds_toArray, List.set_cons_zero, List.set_cons_succ]
          refine wpAnyH_take (i := 18) (oi := ({ dst := some 29, op := Op.load 41 (Operand.tmp 28), type := 41, pos := "right.go:29", after := #[{ on := 17, ground := Ground.data }, { on := 16, ground := Ground.guard }], guard := some (16, false) } : Oper)) (v := undef) rfl (by kernel_rfl) (by kernel_rfl) (by kernel_rfl) (fun _ _ _ h => h) (Or.inr ⟨by rfl, rfl⟩) hHeld1 ?_
          try simp only [Act.put, List.setIfInBounds_toArray, List.set_cons_zero, List.set_cons_succ]
          refine wpAnyH_take (i := 19) (oi := ({ dst := some 30, op := Op.call { callee := Callee.builtin Builtin.len, args := #[Operand.tmp 29], argTypes := #[41] }, type := 3, pos := "right.go:29", after := #[{ on := 18, ground := Ground.data }, { on := 16, ground := Ground.guard }], guard := some (16, false) } : Oper)) (v := undef) rfl (by kernel_rfl) (by kernel_rfl) (by kernel_rfl) (fun _ _ _ h => h) (Or.inr ⟨by rfl, rfl⟩) hHeld1 ?_
          try simp only [Act.put, List.setIfInBounds_toArray, List.set_cons_zero, List.set_cons_succ]
          refine wpAnyH_take (i := 20) (oi := ({ dst := some 31, op := Op.load 43 (Operand.tmp 2), type := 43, pos := "right.go:29", after := #[{ on := 16, ground := Ground.guard }], guard := some (16, false) } : Oper)) (v := undef) rfl (by kernel_rfl) (by kernel_rfl) (by kernel_rfl) (fun _ _ _ h => h) (Or.inr ⟨by rfl, rfl⟩) hHeld1 ?_
          try simp only [Act.put, List.setIfInBounds_toArray, List.set_cons_zero, List.set_cons_succ]
          refine wpAnyH_take (i := 21) (oi := ({ dst := some 32, op := Op.call { callee := Callee.value (Operand.func 47), args := #[Operand.tmp 31], argTypes := #[43] }, type := 3, pos := "right.go:29", after := #[{ on := 20, ground := Ground.data }, { on := 16, ground := Ground.chain }, { on := 16, ground := Ground.guard }], guard := some (16, false) } : Oper)) (v := undef) rfl (by kernel_rfl) (by kernel_rfl) (by kernel_rfl) (fun _ _ _ h => h) (Or.inr ⟨by rfl, rfl⟩) hHeld1 ?_
          try simp only [Act.put, List.setIfInBounds_toArray, List.set_cons_zero, List.set_cons_succ]
          refine wpAnyH_take (i := 22) (oi := ({ dst := some 33, op := Op.binOp BinOp.neq 3 (Operand.tmp 30) (Operand.tmp 32) 3, type := 4, pos := "right.go:29", after := #[{ on := 19, ground := Ground.data }, { on := 21, ground := Ground.data }, { on := 16, ground := Ground.guard }], guard := some (16, false) } : Oper)) (v := undef) rfl (by kernel_rfl) (by kernel_rfl) (by kernel_rfl) (fun _ _ _ h => h) (Or.inr ⟨by rfl, rfl⟩) hHeld1 ?_
          try simp only [Act.put, List.setIfInBounds_toArray, List.set_cons_zero, List.set_cons_succ]
          refine wpAnyH_take (i := 23) (oi := ({ dst := some 34, op := Op.pick (Operand.tmp 27) (Operand.const (Value.bool true)) (Operand.tmp 33), type := 4, pos := "right.go:29", after := #[{ on := 16, ground := Ground.data }, { on := 22, ground := Ground.data }], guard := none } : Oper)) (v := ?v2x23) rfl (by kernel_rfl) (by kernel_rfl) (by kernel_rfl) (fun _ _ _ h => h) (Or.inl ⟨by rfl, ?hy2x23⟩) hHeld1 ?_
          case hy2x23 => ((intro w hSw); (try dsimp only at hSw); go_simp; try with_reducible rfl)
          try simp only [Act.put, List.setIfInBounds_toArray, List.set_cons_zero, List.set_cons_succ]
          refine wpAnyH_take (i := 24) (oi := ({ dst := some 35, op := Op.move (Operand.tmp 34), type := 4, pos := "right.go:29", after := #[{ on := 23, ground := Ground.data }, { on := 21, ground := Ground.chain }], guard := none } : Oper)) (v := ?v2x24) rfl (by kernel_rfl) (by kernel_rfl) (by kernel_rfl) (fun _ _ _ h => h) (Or.inl ⟨by rfl, ?hy2x24⟩) hHeld1 ?_
          case hy2x24 => ((intro w hSw); (try dsimp only at hSw); go_simp; try with_reducible rfl)
          try simp only [Act.put, List.setIfInBounds_toArray, List.set_cons_zero, List.set_cons_succ]
          refine wpAnyH_take (i := 25) (oi := ({ dst := some 36, op := Op.move (Operand.tmp 5), type := 5, pos := "right.go:29", after := #[{ on := 24, ground := Ground.guard }], guard := some (24, false) } : Oper)) (v := undef) rfl (by kernel_rfl) (by kernel_rfl) (by kernel_rfl) (fun _ _ _ h => h) (Or.inr ⟨by rfl, rfl⟩) hHeld1 ?_
          try simp only [Act.put, List.setIfInBounds_toArray, List.set_cons_zero, List.set_cons_succ]
          refine wpAnyH_take (i := 26) (oi := ({ dst := some 37, op := Op.fieldAddr 43 (Operand.tmp 2) 3, type := 0, pos := "right.go:29", after := #[{ on := 24, ground := Ground.guard }], guard := some (24, false) } : Oper)) (v := undef) rfl (by kernel_rfl) (by kernel_rfl) (by kernel_rfl) (fun _ _ _ h => h) (Or.inr ⟨by rfl, rfl⟩) hHeld1 ?_
          try simp only [Act.put, List.setIfInBounds_toArray, List.set_cons_zero, List.set_cons_succ]
          refine wpAnyH_take (i := 27) (oi := ({ dst := some 38, op := Op.load 41 (Operand.tmp 37), type := 41, pos := "right.go:29", after := #[{ on := 26, ground := Ground.data }, { on := 24, ground := Ground.guard }], guard := some (24, false) } : Oper)) (v := undef) rfl (by kernel_rfl) (by kernel_rfl) (by kernel_rfl) (fun _ _ _ h => h) (Or.inr ⟨by rfl, rfl⟩) hHeld1 ?_
          try simp only [Act.put, List.setIfInBounds_toArray, List.set_cons_zero, List.set_cons_succ]
          refine wpAnyH_take (i := 28) (oi := ({ dst := some 39, op := Op.call { callee := Callee.value (Operand.func 48), args := #[Operand.tmp 36, Operand.tmp 38], argTypes := #[5, 41] }, type := 4, pos := "right.go:29", after := #[{ on := 25, ground := Ground.data }, { on := 27, ground := Ground.data }, { on := 24, ground := Ground.chain }, { on := 24, ground := Ground.guard }], guard := some (24, false) } : Oper)) (v := undef) rfl (by kernel_rfl) (by kernel_rfl) (by kernel_rfl) (fun _ _ _ h => h) (Or.inr ⟨by rfl, rfl⟩) hHeld1 ?_
          try simp only [Act.put, List.setIfInBounds_toArray, List.set_cons_zero, List.set_cons_succ]
          refine wpAnyH_take (i := 29) (oi := ({ dst := some 40, op := Op.unOp UnOp.not 4 (Operand.tmp 39), type := 4, pos := "right.go:29", after := #[{ on := 28, ground := Ground.data }, { on := 24, ground := Ground.guard }], guard := some (24, false) } : Oper)) (v := undef) rfl (by kernel_rfl) (by kernel_rfl) (by kernel_rfl) (fun _ _ _ h => h) (Or.inr ⟨by rfl, rfl⟩) hHeld1 ?_
          try simp only [Act.put, List.setIfInBounds_toArray, List.set_cons_zero, List.set_cons_succ]
          refine wpAnyH_take (i := 30) (oi := ({ dst := some 41, op := Op.pick (Operand.tmp 35) (Operand.const (Value.bool true)) (Operand.tmp 40), type := 4, pos := "right.go:29", after := #[{ on := 24, ground := Ground.data }, { on := 29, ground := Ground.data }], guard := none } : Oper)) (v := ?v2x30) rfl (by kernel_rfl) (by kernel_rfl) (by kernel_rfl) (fun _ _ _ h => h) (Or.inl ⟨by rfl, ?hy2x30⟩) hHeld1 ?_
          case hy2x30 => ((intro w hSw); (try dsimp only at hSw); go_simp; try with_reducible rfl)
          try simp only [Act.put, List.setIfInBounds_toArray, List.set_cons_zero, List.set_cons_succ]
          refine wpAnyH_done (by kernel_rfl) ?_ _
          have hbel := hHeld1.2.2.2.2.2.2
          clear hHeld1
          go_wp2_with fail
          go_meet
          exact ⟨by rw [HGG.out]; rfl, hbel⟩
        · have h2' : x.n ≤ mx := by omega
          have d2 : decide (mx < x.n) = false := by simpa using h2'
          clear h1 h2
          by_cases h3 : x.pc = pc
          · have e3 : (x.pc == pc) = true := by simpa using h3
            have e3' : (x.pc != pc) = false := by simpa using h3
            have H3 := Lib.hid h3
            clear h3
            by_cases h4 : x.to.length = j
            · have e4 : ((x.to.length : Int) == (j : Int)) = true := by rw [h4]; simp
              have e4' : ((x.to.length : Int) != (j : Int)) = false := by rw [h4]; simp
              have H4 := Lib.hid h4
              clear h4
              cases kb with
              | true =>
                have HGG := Lib.hid (show g = true by rw [HG.out]; simp [h1', h2', H3.out, H4.out])
                refine wp_region_held_drew (S := (fun w' => w'.cell? ⟨w.heap.size, 0, none⟩ = some (.int .i64 x.pc) ∧ w'.cell? ⟨w.heap.size, 1, none⟩ = some (.int .i64 x.op) ∧ w'.cell? ⟨w.heap.size, 2, none⟩ = some (.int .i64 x.n) ∧ w'.cell? ⟨w.heap.size, 3, none⟩ = some (.slice Ak x.keys.length ck) ∧ w'.cell? ⟨w.heap.size, 4, none⟩ = some (.slice At x.to.length ct) ∧ w.heap.size < w'.heap.size ∧ Below w.heap.size w w')) (by kernel_rfl) (⟨c0, c1, c2, c3, c4, hz, B0.out.drew⟩) (fun hHeld => ?_)
                refine wpAnyH_take (i := 0) (oi := ({ dst := some 11, op := Op.fieldAddr 43 (Operand.tmp 2) 2, type := 0, pos := "right.go:29", after := #[], guard := none } : Oper)) (v := ?v3x0) rfl (by kernel_rfl) (by kernel_rfl) (by kernel_rfl) (fun _ _ _ h => h) (Or.inl ⟨by rfl, ?hy3x0⟩) hHeld ?_
                case hy3x0 => ((intro w hSw); (try dsimp only at hSw); go_simp; try with_reducible rfl)
                try simp only [Act.put, List.setIfInBounds_toArray, List.set_cons_zero, List.set_cons_succ]
                refine wpAnyH_take (i := 1) (oi := ({ dst := some 12, op := Op.load 3 (Operand.tmp 11), type := 3, pos := "right.go:29", after := #[{ on := 0, ground := Ground.data }], guard := none } : Oper)) (v := ?v3x1) rfl (by kernel_rfl) (by kernel_rfl) (by kernel_rfl) (fun _ _ _ h => h) (Or.inl ⟨by rfl, ?hy3x1⟩) hHeld ?_
                case hy3x1 => ((intro w hSw); (try dsimp only at hSw); go_simp; try with_reducible rfl)
                try simp only [Act.put, List.setIfInBounds_toArray, List.set_cons_zero, List.set_cons_succ]
                refine wpAnyH_take (i := 2) (oi := ({ dst := some 13, op := Op.binOp BinOp.lss 3 (Operand.tmp 12) (Operand.const (Value.int IntKind.i64 0)) 3, type := 4, pos := "right.go:29", after := #[{ on := 1, ground := Ground.data }], guard := none } : Oper)) (v := ?v3x2) rfl (by kernel_rfl) (by kernel_rfl) (by kernel_rfl) (fun _ _ _ h => h) (Or.inl ⟨by rfl, ?hy3x2⟩) hHeld ?_
                case hy3x2 => ((intro w hSw); (try dsimp only at hSw); go_simp; try with_reducible rfl)
                try simp only [Act.put, List.setIfInBounds_toArray, List.set_cons_zero, List.set_cons_succ]
                refine wpAnyH_take (i := 3) (oi := ({ dst := some 14, op := Op.move (Operand.tmp 13), type := 4, pos := "right.go:29", after := #[{ on := 2, ground := Ground.data }], guard := none } : Oper)) (v := ?v3x3) rfl (by kernel_rfl) (by kernel_rfl) (by kernel_rfl) (fun _ _ _ h => h) (Or.inl ⟨by rfl, ?hy3x3⟩) hHeld ?_
                case hy3x3 => ((intro w hSw); (try dsimp only at hSw); go_simp; try with_reducible rfl)
                try simp only [Act.put, List.setIfInBounds_toArray, List.set_cons_zero, List.set_cons_succ]
                refine wpAnyH_take (i := 4) (oi := ({ dst := some 15, op := Op.fieldAddr 43 (Operand.tmp 2) 2, type := 0, pos := "right.go:29", after := #[{ on := 3, ground := Ground.guard }], guard := some (3, false) } : Oper)) (v := ?v3x4) rfl (by kernel_rfl) (by kernel_rfl) (by kernel_rfl) (fun _ _ _ h => h) (Or.inl ⟨by rfl, ?hy3x4⟩) hHeld ?_
                case hy3x4 => ((intro w hSw); (try dsimp only at hSw); go_simp; try with_reducible rfl)
                try simp only [Act.put, List.setIfInBounds_toArray, List.set_cons_zero, List.set_cons_succ]
                refine wpAnyH_take (i := 5) (oi := ({ dst := some 16, op := Op.load 3 (Operand.tmp 15), type := 3, pos := "right.go:29", after := #[{ on := 4, ground := Ground.data }, { on := 3, ground := Ground.guard }], guard := some (3, false) } : Oper)) (v := ?v3x5) rfl (by kernel_rfl) (by kernel_rfl) (by kernel_rfl) (fun _ _ _ h => h) (Or.inl ⟨by rfl, ?hy3x5⟩) hHeld ?_
                case hy3x5 => ((intro w hSw); (try dsimp only at hSw); go_simp; try with_reducible rfl)
                try simp only [Act.put, List.setIfInBounds_toArray, List.set_cons_zero, List.set_cons_succ]
                refine wpAnyH_take (i := 6) (oi := ({ dst := some 17, op := Op.move (Operand.tmp 5), type := 5, pos := "right.go:29", after := #[{ on := 3, ground := Ground.guard }], guard := some (3, false) } : Oper)) (v := ?v3x6) rfl (by kernel_rfl) (by kernel_rfl) (by kernel_rfl) (fun _ _ _ h => h) (Or.inl ⟨by rfl, ?hy3x6⟩) hHeld ?_
                case hy3x6 => ((intro w hSw); (try dsimp only at hSw); go_simp; try with_reducible rfl)
                try simp only [Act.put, List.setIfInBounds_toArray, List.set_cons_zero, List.set_cons_succ]
                refine wpAnyH_ready (rs := [7]) (by kernel_rfl) (by simp) ?_
                refine AllReadyH.cons (o := ({ dst := some 18, op := Op.call { callee := Callee.value (Operand.func 46), args := #[Operand.tmp 17], argTypes := #[5] }, type := 3, pos := "right.go:29", after := #[{ on := 6, ground := Ground.data }, { on := 3, ground := Ground.chain }, { on := 3, ground := Ground.guard }], guard := some (3, false) } : Oper)) rfl (fun K hK => ?_) AllReadyH.nil
                go_simp
                go_at_call 46
                refine (HM _).out.mono ?_
                rintro e wi ⟨rfl, rfl⟩
                try go_wp2_with fail
                refine hK.out _ _ hHeld (fun hHeld1 => ?_)
                clear hK K hHeld
                try simp only [Act.put, List.setIfInBounds_toArray, List.set_cons_zero, List.set_cons_succ]
                refine wpAnyH_take (i := 8) (oi := ({ dst := some 19, op := Op.binOp BinOp.gtr 3 (Operand.tmp 16) (Operand.tmp 18) 3, type := 4, pos := "right.go:29", after := #[{ on := 5, ground := Ground.data }, { on := 7, ground := Ground.data }, { on := 3, ground := Ground.guard }], guard := some (3, false) } : Oper)) (v := ?v3x8) rfl (by kernel_rfl) (by kernel_rfl) (by kernel_rfl) (fun _ _ _ h => h) (Or.inl ⟨by rfl, ?hy3x8⟩) hHeld1 ?_
                case hy3x8 => ((intro w hSw); (try dsimp only at hSw); go_simp; try with_reducible rfl)
                try simp only [Act.put, List.setIfInBounds_toArray, List.set_cons_zero, List.set_cons_succ]
                refine wpAnyH_take (i := 9) (oi := ({ dst := some 20, op := Op.pick (Operand.tmp 14) (Operand.const (Value.bool true)) (Operand.tmp 19), type := 4, pos := "right.go:29", after := #[{ on := 3, ground := Ground.data }, { on := 8, ground := Ground.data }], guard := none } : Oper)) (v := ?v3x9) rfl (by kernel_rfl) (by kernel_rfl) (by kernel_rfl) (fun _ _ _ h => h) (Or.inl ⟨by rfl, ?hy3x9⟩) hHeld1 ?_
                case hy3x9 => ((intro w hSw); (try dsimp only at hSw); go_simp; try with_reducible rfl)
                try simp only [Act.put, List.setIfInBounds_toArray, List.set_cons_zero, List.set_cons_succ]
                refine wpAnyH_take (i := 10) (oi := ({ dst := some 21, op := Op.move (Operand.tmp 20), type := 4, pos := "right.go:29", after := #[{ on := 9, ground := Ground.data }, { on := 7, ground := Ground.chain }], guard := none } : Oper)) (v := ?v3x10) rfl (by kernel_rfl) (by kernel_rfl) (by kernel_rfl) (fun _ _ _ h => h) (Or.inl ⟨by rfl, ?hy3x10⟩) hHeld1 ?_
                case hy3x10 => ((intro w hSw); (try dsimp only at hSw); go_simp; try with_reducible rfl)
                try simp only [Act.put, List.setIfInBounds_toArray, List.set_cons_zero, List.set_cons_succ]
                refine wpAnyH_take (i := 11) (oi := ({ dst := some 22, op := Op.fieldAddr 43 (Operand.tmp 2) 0, type := 0, pos := "right.go:29", after := #[{ on := 10, ground := Ground.guard }], guard := some (10, false) } : Oper)) (v := ?v3x11) rfl (by kernel_rfl) (by kernel_rfl) (by kernel_rfl) (fun _ _ _ h => h) (Or.inl ⟨by rfl, ?hy3x11⟩) hHeld1 ?_
                case hy3x11 => ((intro w hSw); (try dsimp only at hSw); go_simp; try with_reducible rfl)
                try simp only [Act.put, List.setIfInBounds_toArray, List.set_cons_zero, List.set_cons_succ]
                refine wpAnyH_take (i := 12) (oi := ({ dst := some 23, op := Op.load 3 (Operand.tmp 22), type := 3, pos := "right.go:29", after := #[{ on := 11, ground := Ground.data }, { on := 10, ground := Ground.guard }], guard := some (10, false) } : Oper)) (v := ?v3x12) rfl (by kernel_rfl) (by kernel_rfl) (by kernel_rfl) (fun _ _ _ h => h) (Or.inl ⟨by rfl, ?hy3x12⟩) hHeld1 ?_
                case hy3x12 => ((intro w hSw); (try dsimp only at hSw); go_simp; try with_reducible rfl)
                try simp only [Act.put, List.setIfInBounds_toArray, List.set_cons_zero, List.set_cons_succ]
                refine wpAnyH_take (i := 13) (oi := ({ dst := some 24, op := Op.move (Operand.tmp 1), type := 3, pos := "right.go:29", after := #[{ on := 10, ground := Ground.guard }], guard := some (10, false) } : Oper)) (v := ?v3x13) rfl (by kernel_rfl) (by kernel_rfl) (by kernel_rfl) (fun _ _ _ h => h) (Or.inl ⟨by rfl, ?hy3x13⟩) hHeld1 ?_
                case hy3x13 => ((intro w hSw); (try dsimp only at hSw); go_simp; try with_reducible rfl)
                try simp only [Act.put, List.setIfInBounds_toArray, List.set_cons_zero, List.set_cons_succ]
                refine wpAnyH_take (i := 14) (oi := ({ dst := some 25, op := Op.binOp BinOp.neq 3 (Operand.tmp 23) (Operand.tmp 24) 3, type := 4, pos := "right.go:29", after := #[{ on := 12, ground := Ground.data }, { on := 13, ground := Ground.data }, { on := 10, ground := Ground.guard }], guard := some (10, false) } : Oper)) (v := ?v3x14) rfl (by kernel_rfl) (by kernel_rfl) (by kernel_rfl) (fun _ _ _ h => h) (Or.inl ⟨by rfl, ?hy3x14⟩) hHeld1 ?_
                case hy3x14 => ((intro w hSw); (try dsimp only at hSw); go_simp; try with_reducible rfl)
                try simp only [Act.put, List.setIfInBounds_toArray, List.set_cons_zero, List.set_cons_succ]
                refine wpAnyH_take (i := 15) (oi := ({ dst := some 26, op := Op.pick (Operand.tmp 21) (Operand.const (Value.bool true)) (Operand.tmp 25), type := 4, pos := "right.go:29", after := #[{ on := 10, ground := Ground.data }, { on := 14, ground := Ground.data }], guard := none } : Oper)) (v := ?v3x15) rfl (by kernel_rfl) (by kernel_rfl) (by kernel_rfl) (fun _ _ _ h => h) (Or.inl ⟨by rfl, ?hy3x15⟩) hHeld1 ?_
                case hy3x15 => ((intro w hSw); (try dsimp only at hSw); go_simp; try with_reducible rfl)
                try simp only [Act.put, List.setIfInBounds_toArray, List.set_cons_zero, List.set_cons_succ]
                refine wpAnyH_take (i := 16) (oi := ({ dst := some 27, op := Op.move (Operand.tmp 26), type := 4, pos := "right.go:29", after := #[{ on := 15, ground := Ground.data }, { on := 10, ground := Ground.chain }], guard := none } : Oper)) (v := ?v3x16) rfl (by kernel_rfl) (by kernel_rfl) (by kernel_rfl) (fun _ _ _ h => h) (Or.inl ⟨by rfl, ?hy3x16⟩) hHeld1 ?_
                case hy3x16 => ((intro w hSw); (try dsimp only at hSw); go_simp; try with_reducible rfl)
                try simp only [Act.put, List.setIfInBounds_toArray, List.set_cons_zero, List.set_cons_succ]
                refine wpAnyH_take (i := 17) (oi := ({ dst := some 28, op := Op.fieldAddr 43 (Operand.tmp 2) 4, type := 0, pos := "right.go:29", after := #[{ on := 16, ground := Ground.guard }], guard := some (16, false) } : Oper)) (v := ?v3x17) rfl (by kernel_rfl) (by kernel_rfl) (by kernel_rfl) (fun _ _ _ h => h) (Or.inl ⟨by rfl, ?hy3x17⟩) hHeld1 ?_
                case hy3x17 => ((intro w hSw); (try dsimp only at hSw); go_simp; try with_reducible rfl)
                try simp only [Act.put, List.setIfInBounds_toArray, List.set_cons_zero, List.set_cons_succ]
                refine wpAnyH_take (i := 18) (oi := ({ dst := some 29, op := Op.load 41 (Operand.tmp 28), type := 41, pos := "right.go:29", after := #[{ on := 17, ground := Ground.data }, { on := 16, ground := Ground.guard }], guard := some (16, false) } : Oper)) (v := ?v3x18) rfl (by kernel_rfl) (by kernel_rfl) (by kernel_rfl) (fun _ _ _ h => h) (Or.inl ⟨by rfl, ?hy3x18⟩) hHeld1 ?_
                case hy3x18 => ((intro w hSw); (try dsimp only at hSw); go_simp; try with_reducible rfl)
                try simp only [Act.put, List.setIfInBounds_toArray, List.set_cons_zero, List.set_cons_succ]
                refine wpAnyH_take (i := 19) (oi := ({ dst := some 30, op := Op.call { callee := Callee.builtin Builtin.len, args := #[Operand.tmp 29], argTypes := #[41] }, type := 3, pos := "right.go:29", after := #[{ on := 18, ground := Ground.data }, { on := 16, ground := Ground.guard }], guard := some (16, false) } : Oper)) (v := ?v3x19) rfl (by kernel_rfl) (by kernel_rfl) (by kernel_rfl) (fun _ _ _ h => h) (Or.inl ⟨by rfl, ?hy3x19⟩) hHeld1 ?_
                case hy3x19 => ((intro w hSw); (try dsimp only at hSw); go_simp; try with_reducible rfl)
                try simp only [Act.put, List.setIfInBounds_toArray, List.set_cons_zero, List.set_cons_succ]
                refine wpAnyH_take (i := 20) (oi := ({ dst := some 31, op := Op.load 43 (Operand.tmp 2), type := 43, pos := "right.go:29", after := #[{ on := 16, ground := Ground.guard }], guard := some (16, false) } : Oper)) (v := ?v3x20) rfl (by kernel_rfl) (by kernel_rfl) (by kernel_rfl) (fun _ _ _ h => h) (Or.inl ⟨by rfl, ?hy3x20⟩) hHeld1 ?_
                case hy3x20 => ((intro w hSw); (try dsimp only at hSw); go_simp; try with_reducible rfl)
                try simp only [Act.put, List.setIfInBounds_toArray, List.set_cons_zero, List.set_cons_succ]
                refine wpAnyH_ready (rs := [21]) (by kernel_rfl) (by simp) ?_
                refine AllReadyH.cons (o := ({ dst := some 32, op := Op.call { callee := Callee.value (Operand.func 47), args := #[Operand.tmp 31], argTypes := #[43] }, type := 3, pos := "right.go:29", after := #[{ on := 20, ground := Ground.data }, { on := 16, ground := Ground.chain }, { on := 16, ground := Ground.guard }], guard := some (16, false) } : Oper)) rfl (fun K hK => ?_) AllReadyH.nil
                go_simp
                go_at_call 47
                refine (HJ _).out.mono ?_
                rintro e wi ⟨rfl, hb⟩
                try go_wp2_with fail
                have hS2 := hHeld1
                obtain ⟨x0, x1, x2, x3, x4, x5, x6⟩ := hS2
                refine hK.out _ _ ⟨keepc hb x5 (Nat.le_refl _) x0, keepc hb x5 (Nat.le_refl _) x1, keepc hb x5 (Nat.le_refl _) x2, keepc hb x5 (Nat.le_refl _) x3, keepc hb x5 (Nat.le_refl _) x4, Nat.lt_of_lt_of_le x5 hb.size, Below.link x6 hb⟩ (fun hHeld2 => ?_)
                clear hK K hHeld1 x0 x1 x2 x3 x4 x5 x6 hb
                try simp only [Act.put, List.setIfInBounds_toArray, List.set_cons_zero, List.set_cons_succ]
                refine wpAnyH_take (i := 22) (oi := ({ dst := some 33, op := Op.binOp BinOp.neq 3 (Operand.tmp 30) (Operand.tmp 32) 3, type := 4, pos := "right.go:29", after := #[{ on := 19, ground := Ground.data }, { on := 21, ground := Ground.data }, { on := 16, ground := Ground.guard }], guard := some (16, false) } : Oper)) (v := ?v3x22) rfl (by kernel_rfl) (by kernel_rfl) (by kernel_rfl) (fun _ _ _ h => h) (Or.inl ⟨by rfl, ?hy3x22⟩) hHeld2 ?_
                case hy3x22 => ((intro w hSw); (try dsimp only at hSw); go_simp; try with_reducible rfl)
                try simp only [Act.put, List.setIfInBounds_toArray, List.set_cons_zero, List.set_cons_succ]
                refine wpAnyH_take (i := 23) (oi := ({ dst := some 34, op := Op.pick (Operand.tmp 27) (Operand.const (Value.bool true)) (Operand.tmp 33), type := 4, pos := "right.go:29", after := #[{ on := 16, ground := Ground.data }, { on := 22, ground := Ground.data }], guard := none } : Oper)) (v := ?v3x23) rfl (by kernel_rfl) (by kernel_rfl) (by kernel_rfl) (fun _ _ _ h => h) (Or.inl ⟨by rfl, ?hy3x23⟩) hHeld2 ?_
                case hy3x23 => ((intro w hSw); (try dsimp only at hSw); go_simp; try with_reducible rfl)
                try simp only [Act.put, List.setIfInBounds_toArray, List.set_cons_zero, List.set_cons_succ]
                refine wpAnyH_take (i := 24) (oi := ({ dst := some 35, op := Op.move (Operand.tmp 34), type := 4, pos := "right.go:29", after := #[{ on := 23, ground := Ground.data }, { on := 21, ground := Ground.chain }], guard := none } : Oper)) (v := ?v3x24) rfl (by kernel_rfl) (by kernel_rfl) (by kernel_rfl) (fun _ _ _ h => h) (Or.inl ⟨by rfl, ?hy3x24⟩) hHeld2 ?_
                case hy3x24 => ((intro w hSw); (try dsimp only at hSw); go_simp; try with_reducible rfl)
                try simp only [Act.put, List.setIfInBounds_toArray, List.set_cons_zero, List.set_cons_succ]
                refine wpAnyH_take (i := 25) (oi := ({ dst := some 36, op := Op.move (Operand.tmp 5), type := 5, pos := "right.go:29", after := #[{ on := 24, ground := Ground.guard }], guard := some (24, false) } : Oper)) (v := ?v3x25) rfl (by kernel_rfl) (by kernel_rfl) (by kernel_rfl) (fun _ _ _ h => h) (Or.inl ⟨by rfl, ?hy3x25⟩) hHeld2 ?_
                case hy3x25 => ((intro w hSw); (try dsimp only at hSw); go_simp; try with_reducible rfl)
                try simp only [Act.put, List.setIfInBounds_toArray, List.set_cons_zero, List.set_cons_succ]
                refine wpAnyH_take (i := 26) (oi := ({ dst := some 37, op := Op.fieldAddr 43 (Operand.tmp 2) 3, type := 0, pos := "right.go:29", after := #[{ on := 24, ground := Ground.guard }], guard := some (24, false) } : Oper)) (v := ?v3x26) rfl (by kernel_rfl) (by kernel_rfl) (by kernel_rfl) (fun _ _ _ h => h) (Or.inl ⟨by rfl, ?hy3x26⟩) hHeld2 ?_
                case hy3x26 => ((intro w hSw); (try dsimp only at hSw); go_simp; try with_reducible rfl)
                try simp only [Act.put, List.setIfInBounds_toArray, List.set_cons_zero, List.set_cons_succ]
                refine wpAnyH_take (i := 27) (oi := ({ dst := some 38, op := Op.load 41 (Operand.tmp 37), type := 41, pos := "right.go:29", after := #[{ on := 26, ground := Ground.data }, { on := 24, ground := Ground.guard }], guard := some (24, false) } : Oper)) (v := ?v3x27) rfl (by kernel_rfl) (by kernel_rfl) (by kernel_rfl) (fun _ _ _ h => h) (Or.inl ⟨by rfl, ?hy3x27⟩) hHeld2 ?_
                case hy3x27 => ((intro w hSw); (try dsimp only at hSw); go_simp; try with_reducible rfl)
                try simp only [Act.put, List.setIfInBounds_toArray, List.set_cons_zero, List.set_cons_succ]
                refine wpAnyH_ready (rs := [28]) (by kernel_rfl) (by simp) ?_
                refine AllReadyH.cons (o := ({ dst := some 39, op := Op.call { callee := Callee.value (Operand.func 48), args := #[Operand.tmp 36, Operand.tmp 38], argTypes := #[5, 41] }, type := 4, pos := "right.go:29", after := #[{ on := 25, ground := Ground.data }, { on := 27, ground := Ground.data }, { on := 24, ground := Ground.chain }, { on := 24, ground := Ground.guard }], guard := some (24, false) } : Oper)) rfl (fun K hK => ?_) AllReadyH.nil
                go_simp
                go_at_call 48
                refine (HK _ (hHeld2).2.2.2.2.2.2).out.mono ?_
                rintro e wi ⟨rfl, rfl⟩
                try go_wp2_with fail
                refine hK.out _ _ hHeld2 (fun hHeld3 => ?_)
                clear hK K hHeld2
                try simp only [Act.put, List.setIfInBounds_toArray, List.set_cons_zero, List.set_cons_succ]
                refine wpAnyH_take (i := 29) (oi := ({ dst := some 40, op := Op.unOp UnOp.not 4 (Operand.tmp 39), type := 4, pos := "right.go:29", after := #[{ on := 28, ground := Ground.data }, { on := 24, ground := Ground.guard }], guard := some (24, false) } : Oper)) (v := ?v3x29) rfl (by kernel_rfl) (by kernel_rfl) (by kernel_rfl) (fun _ _ _ h => h) (Or.inl ⟨by rfl, ?hy3x29⟩) hHeld3 ?_
                case hy3x29 => ((intro w hSw); (try dsimp only at hSw); go_simp; try with_reducible rfl)
                try simp only [Act.put, List.setIfInBounds_toArray, List.set_cons_zero, List.set_cons_succ]
                refine wpAnyH_take (i := 30) (oi := ({ dst := some 41, op := Op.pick (Operand.tmp 35) (Operand.const (Value.bool true)) (Operand.tmp 40), type := 4, pos := "right.go:29", after := #[{ on := 24, ground := Ground.data }, { on := 29, ground := Ground.data }], guard := none } : Oper)) (v := ?v3x30) rfl (by kernel_rfl) (by kernel_rfl) (by kernel_rfl) (fun _ _ _ h => h) (Or.inl ⟨by rfl, ?hy3x30⟩) hHeld3 ?_
                case hy3x30 => ((intro w hSw); (try dsimp only at hSw); go_simp; try with_reducible rfl)
                try simp only [Act.put, List.setIfInBounds_toArray, List.set_cons_zero, List.set_cons_succ]
                refine wpAnyH_done (by kernel_rfl) ?_ _
                have hbel := hHeld3.2.2.2.2.2.2
                clear hHeld3
                go_wp2_with fail
                go_meet
                exact ⟨by rw [HGG.out]; rfl, hbel⟩
              | false =>
                have HGG := Lib.hid (show g = false by rw [HG.out]; simp)
                refine wp_region_held_drew (S := (fun w' => w'.cell? ⟨w.heap.size, 0, none⟩ = some (.int .i64 x.pc) ∧ w'.cell? ⟨w.heap.size, 1, none⟩ = some (.int .i64 x.op) ∧ w'.cell? ⟨w.heap.size, 2, none⟩ = some (.int .i64 x.n) ∧ w'.cell? ⟨w.heap.size, 3, none⟩ = some (.slice Ak x.keys.length ck) ∧ w'.cell? ⟨w.heap.size, 4, none⟩ = some (.slice At x.to.length ct) ∧ w.heap.size < w'.heap.size ∧ Below w.heap.size w w')) (by kernel_rfl) (⟨c0, c1, c2, c3, c4, hz, B0.out.drew⟩) (fun hHeld => ?_)
                refine wpAnyH_take (i := 0) (oi := ({ dst := some 11, op := Op.fieldAddr 43 (Operand.tmp 2) 2, type := 0, pos := "right.go:29", after := #[], guard := none } : Oper)) (v := ?v4x0) rfl (by kernel_rfl) (by kernel_rfl) (by kernel_rfl) (fun _ _ _ h => h) (Or.inl ⟨by rfl, ?hy4x0⟩) hHeld ?_
                case hy4x0 => ((intro w hSw); (try dsimp only at hSw); go_simp; try with_reducible rfl)
                try simp only [Act.put, List.setIfInBounds_toArray, List.set_cons_zero, List.set_cons_succ]
                refine wpAnyH_take (i := 1) (oi := ({ dst := some 12, op := Op.load 3 (Operand.tmp 11), type := 3, pos := "right.go:29", after := #[{ on := 0, ground := Ground.data }], guard := none } : Oper)) (v := ?v4x1) rfl (by kernel_rfl) (by kernel_rfl) (by kernel_rfl) (fun _ _ _ h => h) (Or.inl ⟨by rfl, ?hy4x1⟩) hHeld ?_
                case hy4x1 => ((intro w hSw); (try dsimp only at hSw); go_simp; try with_reducible rfl)
                try simp only [Act.put, List.setIfInBounds_toArray, List.set_cons_zero, List.set_cons_succ]
                refine wpAnyH_take (i := 2) (oi := ({ dst := some 13, op := Op.binOp BinOp.lss 3 (Operand.tmp 12) (Operand.const (Value.int IntKind.i64 0)) 3, type := 4, pos := "right.go:29", after := #[{ on := 1, ground := Ground.data }], guard := none } : Oper)) (v := ?v4x2) rfl (by kernel_rfl) (by kernel_rfl) (by kernel_rfl) (fun _ _ _ h => h) (Or.inl ⟨by rfl, ?hy4x2⟩) hHeld ?_
                case hy4x2 => ((intro w hSw); (try dsimp only at hSw); go_simp; try with_reducible rfl)
                try simp only [Act.put, List.setIfInBounds_toArray, List.set_cons_zero, List.set_cons_succ]
                refine wpAnyH_take (i := 3) (oi := ({ dst := some 14, op := Op.move (Operand.tmp 13), type := 4, pos := "right.go:29", after := #[{ on := 2, ground := Ground.data }], guard := none } : Oper)) (v := ?v4x3) rfl (by kernel_rfl) (by kernel_rfl) (by kernel_rfl) (fun _ _ _ h => h) (Or.inl ⟨by rfl, ?hy4x3⟩) hHeld ?_
                case hy4x3 => ((intro w hSw); (try dsimp only at hSw); go_simp; try with_reducible rfl)
                try simp only [Act.put, List.setIfInBounds_toArray, List.set_cons_zero, List.set_cons_succ]
                refine wpAnyH_take (i := 4) (oi := ({ dst := some 15, op := Op.fieldAddr 43 (Operand.tmp 2) 2, type := 0, pos := "right.go:29", after := #[{ on := 3, ground := Ground.guard }], guard := some (3, false) } : Oper)) (v := ?v4x4) rfl (by kernel_rfl) (by kernel_rfl) (by kernel_rfl) (fun _ _ _ h => h) (Or.inl ⟨by rfl, ?hy4x4⟩) hHeld ?_
                case hy4x4 => ((intro w hSw); (try dsimp only at hSw); go_simp; try with_reducible rfl)
                try simp only [Act.put, List.setIfInBounds_toArray, List.set_cons_zero, List.set_cons_succ]
                refine wpAnyH_take (i := 5) (oi := ({ dst := some 16, op := Op.load 3 (Operand.tmp 15), type := 3, pos := "right.go:29", after := #[{ on := 4, ground := Ground.data }, { on := 3, ground := Ground.guard }], guard := some (3, false) } : Oper)) (v := ?v4x5) rfl (by kernel_rfl) (by kernel_rfl) (by kernel_rfl) (fun _ _ _ h => h) (Or.inl ⟨by rfl, ?hy4x5⟩) hHeld ?_
                case hy4x5 => ((intro w hSw); (try dsimp only at hSw); go_simp; try with_reducible rfl)
                try simp only [Act.put, List.setIfInBounds_toArray, List.set_cons_zero, List.set_cons_succ]
                refine wpAnyH_take (i := 6) (oi := ({ dst := some 17, op := Op.move (Operand.tmp 5), type := 5, pos := "right.go:29", after := #[{ on := 3, ground := Ground.guard }], guard := some (3, false) } : Oper)) (v := ?v4x6) rfl (by kernel_rfl) (by kernel_rfl) (by kernel_rfl) (fun _ _ _ h => h) (Or.inl ⟨by rfl, ?hy4x6⟩) hHeld ?_
                case hy4x6 => ((intro w hSw); (try dsimp only at hSw); go_simp; try with_reducible rfl)
                try simp only [Act.put, List.setIfInBounds_toArray, List.set_cons_zero, List.set_cons_succ]
                refine wpAnyH_ready (rs := [7]) (by kernel_rfl) (by simp) ?_
                refine AllReadyH.cons (o := ({ dst := some 18, op := Op.call { callee := Callee.value (Operand.func 46), args := #[Operand.tmp 17], argTypes := #[5] }, type := 3, pos := "right.go:29", after := #[{ on := 6, ground := Ground.data }, { on := 3, ground := Ground.chain }, { on := 3, ground := Ground.guard }], guard := some (3, false) } : Oper)) rfl (fun K hK => ?_) AllReadyH.nil
                go_simp
                go_at_call 46
                refine (HM _).out.mono ?_
                rintro e wi ⟨rfl, rfl⟩
                try go_wp2_with fail
                refine hK.out _ _ hHeld (fun hHeld1 => ?_)
                clear hK K hHeld
                try simp only [Act.put, List.setIfInBounds_toArray, List.set_cons_zero, List.set_cons_succ]
                refine wpAnyH_take (i := 8) (oi := ({ dst := some 19, op := Op.binOp BinOp.gtr 3 (Operand.tmp 16) (Operand.tmp 18) 3, type := 4, pos := "right.go:29", after := #[{ on := 5, ground := Ground.data }, { on := 7, ground := Ground.data }, { on := 3, ground := Ground.guard }], guard := some (3, false) } : Oper)) (v := ?v4x8) rfl (by kernel_rfl) (by kernel_rfl) (by kernel_rfl) (fun _ _ _ h => h) (Or.inl ⟨by rfl, ?hy4x8⟩) hHeld1 ?_
                case hy4x8 => ((intro w hSw); (try dsimp only at hSw); go_simp; try with_reducible rfl)
                try simp only [Act.put, List.setIfInBounds_toArray, List.set_cons_zero, List.set_cons_succ]
                refine wpAnyH_take (i := 9) (oi := ({ dst := some 20, op := Op.pick (Operand.tmp 14) (Operand.const (Value.bool true)) (Operand.tmp 19), type := 4, pos := "right.go:29", after := #[{ on := 3, ground := Ground.data }, { on := 8, ground := Ground.data }], guard := none } : Oper)) (v := ?v4x9) rfl (by kernel_rfl) (by kernel_rfl) (by kernel_rfl) (fun _ _ _ h => h) (Or.inl ⟨by rfl, ?hy4x9⟩) hHeld1 ?_
                case hy4x9 => ((intro w hSw); (try dsimp only at hSw); go_simp; try with_reducible rfl)
                try simp only [Act.put, List.setIfInBounds_toArray, List.set_cons_zero, List.set_cons_succ]
                refine wpAnyH_take (i := 10) (oi := ({ dst := some 21, op := Op.move (Operand.tmp 20), type := 4, pos := "right.go:29", after := #[{ on := 9, ground := Ground.data }, { on := 7, ground := Ground.chain }], guard := none } : Oper)) (v := ?v4x10) rfl (by kernel_rfl) (by kernel_rfl) (by kernel_rfl) (fun _ _ _ h => h) (Or.inl ⟨by rfl, ?hy4x10⟩) hHeld1 ?_
                case hy4x10 => ((intro w hSw); (try dsimp only at hSw); go_simp; try with_reducible rfl)
                try simp only [Act.put, List.setIfInBounds_toArray, List.set_cons_zero, List.set_cons_succ]
                refine wpAnyH_take (i := 11) (oi := ({ dst := some 22, op := Op.fieldAddr 43 (Operand.tmp 2) 0, type := 0, pos := "right.go:29", after := #[{ on := 10, ground := Ground.guard }], guard := some (10, false) } : Oper)) (v := ?v4x11) rfl (by kernel_rfl) (by kernel_rfl) (by kernel_rfl) (fun _ _ _ h => h) (Or.inl ⟨by rfl, ?hy4x11⟩) hHeld1 ?_
                case hy4x11 => ((intro w hSw); (try dsimp only at hSw); go_simp; try with_reducible rfl)
                try simp only [Act.put, List.setIfInBounds_toArray, List.set_cons_zero, List.set_cons_succ]
                refine wpAnyH_take (i := 12) (oi := ({ dst := some 23, op := Op.load 3 (Operand.tmp 22), type := 3, pos := "right.go:29", after := #[{ on := 11, ground := Ground.data }, { on := 10, ground := Ground.guard }], guard := some (10, false) } : Oper)) (v := ?v4x12) rfl (by kernel_rfl) (by kernel_rfl) (by kernel_rfl) (fun _ _ _ h => h) (Or.inl ⟨by rfl, ?hy4x12⟩) hHeld1 ?_
                case hy4x12 => ((intro w hSw); (try dsimp only at hSw); go_simp; try with_reducible rfl)
                try simp only [Act.put, List.setIfInBounds_toArray, List.set_cons_zero, List.set_cons_succ]
                refine wpAnyH_take (i := 13) (oi := ({ dst := some 24, op := Op.move (Operand.tmp 1), type := 3, pos := "right.go:29", after := #[{ on := 10, ground := Ground.guard }], guard := some (10, false) } : Oper)) (v := ?v4x13) rfl (by kernel_rfl) (by kernel_rfl) (by kernel_rfl) (fun _ _ _ h => h) (Or.inl ⟨by rfl, ?hy4x13⟩) hHeld1 ?_
                case hy4x13 => ((intro w hSw); (try dsimp only at hSw); go_simp; try with_reducible rfl)
                try simp only [Act.put, List.setIfInBounds_toArray, List.set_cons_zero, List.set_cons_succ]
                refine wpAnyH_take (i := 14) (oi := ({ dst := some 25, op := Op.binOp BinOp.neq 3 (Operand.tmp 23) (Operand.tmp 24) 3, type := 4, pos := "right.go:29", after := #[{ on := 12, ground := Ground.data }, { on := 13, ground := Ground.data }, { on := 10, ground := Ground.guard }], guard := some (10, false) } : Oper)) (v := ?v4x14) rfl (by kernel_rfl) (by kernel_rfl) (by kernel_rfl) (fun _ _ _ h => h) (Or.inl ⟨by rfl, ?hy4x14⟩) hHeld1 ?_
                case hy4x14 => ((intro w hSw); (try dsimp only at hSw); go_simp; try with_reducible rfl)
                try simp only [Act.put, List.setIfInBounds_toArray, List.set_cons_zero, List.set_cons_succ]
                refine wpAnyH_take (i := 15) (oi := ({ dst := some 26, op := Op.pick (Operand.tmp 21) (Operand.const (Value.bool true)) (Operand.tmp 25), type := 4, pos := "right.go:29", after := #[{ on := 10, ground := Ground.data }, { on := 14, ground := Ground.data }], guard := none } : Oper)) (v := ?v4x15) rfl (by kernel_rfl) (by kernel_rfl) (by kernel_rfl) (fun _ _ _ h => h) (Or.inl ⟨by rfl, ?hy4x15⟩) hHeld1 ?_
                case hy4x15 => ((intro w hSw); (try dsimp only at hSw); go_simp; try with_reducible rfl)
                try simp only [Act.put, List.setIfInBounds_toArray, List.set_cons_zero, List.set_cons_succ]
                refine wpAnyH_take (i := 16) (oi := ({ dst := some 27, op := Op.move (Operand.tmp 26), type := 4, pos := "right.go:29", after := #[{ on := 15, ground := Ground.data }, { on := 10, ground := Ground.chain }], guard := none } : Oper)) (v := ?v4x16) rfl (by kernel_rfl) (by kernel_rfl) (by kernel_rfl) (fun _ _ _ h => h) (Or.inl ⟨by rfl, ?hy4x16⟩) hHeld1 ?_
                case hy4x16 => ((intro w hSw); (try dsimp only at hSw); go_simp; try with_reducible rfl)
                try simp only [Act.put, List.setIfInBounds_toArray, List.set_cons_zero, List.set_cons_succ]
                refine wpAnyH_take (i := 17) (oi := ({ dst := some 28, op := Op.fieldAddr 43 (Operand.tmp 2) 4, type := 0, pos := "right.go:29", after := #[{ on := 16, ground := Ground.guard }], guard := some (16, false) } : Oper)) (v := ?v4x17) rfl (by kernel_rfl) (by kernel_rfl) (by kernel_rfl) (fun _ _ _ h => h) (Or.inl ⟨by rfl, ?hy4x17⟩) hHeld1 ?_
                case hy4x17 => ((intro w hSw); (try dsimp only at hSw); go_simp; try with_reducible rfl)
                try simp only [Act.put, List.setIfInBounds_toArray, List.set_cons_zero, List.set_cons_succ]
                refine wpAnyH_take (i := 18) (oi := ({ dst := some 29, op := Op.load 41 (Operand.tmp 28), type := 41, pos := "right.go:29", after := #[{ on := 17, ground := Ground.data }, { on := 16, ground := Ground.guard }], guard := some (16, false) } : Oper)) (v := ?v4x18) rfl (by kernel_rfl) (by kernel_rfl) (by kernel_rfl) (fun _ _ _ h => h) (Or.inl ⟨by rfl, ?hy4x18⟩) hHeld1 ?_
                case hy4x18 => ((intro w hSw); (try dsimp only at hSw); go_simp; try with_reducible rfl)
                try simp only [Act.put, List.setIfInBounds_toArray, List.set_cons_zero, List.set_cons_succ]
                refine wpAnyH_take (i := 19) (oi := ({ dst := some 30, op := Op.call { callee := Callee.builtin Builtin.len, args := #[Operand.tmp 29], argTypes := #[41] }, type := 3, pos := "right.go:29", after := #[{ on := 18, ground := Ground.data }, { on := 16, ground := Ground.guard }], guard := some (16, false) } : Oper)) (v := ?v4x19) rfl (by kernel_rfl) (by kernel_rfl) (by kernel_rfl) (fun _ _ _ h => h) (Or.inl ⟨by rfl, ?hy4x19⟩) hHeld1 ?_
                case hy4x19 => ((intro w hSw); (try dsimp only at hSw); go_simp; try with_reducible rfl)
                try simp only [Act.put, List.setIfInBounds_toArray, List.set_cons_zero, List.set_cons_succ]
                refine wpAnyH_take (i := 20) (oi := ({ dst := some 31, op := Op.load 43 (Operand.tmp 2), type := 43, pos := "right.go:29", after := #[{ on := 16, ground := Ground.guard }], guard := some (16, false) } : Oper)) (v := ?v4x20) rfl (by kernel_rfl) (by kernel_rfl) (by kernel_rfl) (fun _ _ _ h => h) (Or.inl ⟨by rfl, ?hy4x20⟩) hHeld1 ?_
                case hy4x20 => ((intro w hSw); (try dsimp only at hSw); go_simp; try with_reducible rfl)
                try simp only [Act.put, List.setIfInBounds_toArray, List.set_cons_zero, List.set_cons_succ]
                refine wpAnyH_ready (rs := [21]) (by kernel_rfl) (by simp) ?_
                refine AllReadyH.cons (o := ({ dst := some 32, op := Op.call { callee := Callee.value (Operand.func 47), args := #[Operand.tmp 31], argTypes := #[43] }, type := 3, pos := "right.go:29", after := #[{ on := 20, ground := Ground.data }, { on := 16, ground := Ground.chain }, { on := 16, ground := Ground.guard }], guard := some (16, false) } : Oper)) rfl (fun K hK => ?_) AllReadyH.nil
                go_simp
                go_at_call 47
                refine (HJ _).out.mono ?_
                rintro e wi ⟨rfl, hb⟩
                try go_wp2_with fail
                have hS2 := hHeld1
                obtain ⟨x0, x1, x2, x3, x4, x5, x6⟩ := hS2
                refine hK.out _ _ ⟨keepc hb x5 (Nat.le_refl _) x0, keepc hb x5 (Nat.le_refl _) x1, keepc hb x5 (Nat.le_refl _) x2, keepc hb x5 (Nat.le_refl _) x3, keepc hb x5 (Nat.le_refl _) x4, Nat.lt_of_lt_of_le x5 hb.size, Below.link x6 hb⟩ (fun hHeld2 => ?_)
                clear hK K hHeld1 x0 x1 x2 x3 x4 x5 x6 hb
                try simp only [Act.put, List.setIfInBounds_toArray, List.set_cons_zero, List.set_cons_succ]
                refine wpAnyH_take (i := 22) (oi := ({ dst := some 33, op := Op.binOp BinOp.neq 3 (Operand.tmp 30) (Operand.tmp 32) 3, type := 4, pos := "right.go:29", after := #[{ on := 19, ground := Ground.data }, { on := 21, ground := Ground.data }, { on := 16, ground := Ground.guard }], guard := some (16, false) } : Oper)) (v := ?v4x22) rfl (by kernel_rfl) (by kernel_rfl) (by kernel_rfl) (fun _ _ _ h => h) (Or.inl ⟨by rfl, ?hy4x22⟩) hHeld2 ?_
                case hy4x22 => ((intro w hSw); (try dsimp only at hSw); go_simp; try with_reducible rfl)
                try simp only [Act.put, List.setIfInBounds_toArray, List.set_cons_zero, List.set_cons_succ]
                refine wpAnyH_take (i := 23) (oi := ({ dst := some 34, op := Op.pick (Operand.tmp 27) (Operand.const (Value.bool true)) (Operand.tmp 33), type := 4, pos := "right.go:29", after := #[{ on := 16, ground := Ground.data }, { on := 22, ground := Ground.data }], guard := none } : Oper)) (v := ?v4x23) rfl (by kernel_rfl) (by kernel_rfl) (by kernel_rfl) (fun _ _ _ h => h) (Or.inl ⟨by rfl, ?hy4x23⟩) hHeld2 ?_
                case hy4x23 => ((intro w hSw); (try dsimp only at hSw); go_simp; try with_reducible rfl)
                try simp only [Act.put, List.setIfInBounds_toArray, List.set_cons_zero, List.set_cons_succ]
                refine wpAnyH_take (i := 24) (oi := ({ dst := some 35, op := Op.move (Operand.tmp 34), type := 4, pos := "right.go:29", after := #[{ on := 23, ground := Ground.data }, { on := 21, ground := Ground.chain }], guard := none } : Oper)) (v := ?v4x24) rfl (by kernel_rfl) (by kernel_rfl) (by kernel_rfl) (fun _ _ _ h => h) (Or.inl ⟨by rfl, ?hy4x24⟩) hHeld2 ?_
                case hy4x24 => ((intro w hSw); (try dsimp only at hSw); go_simp; try with_reducible rfl)
                try simp only [Act.put, List.setIfInBounds_toArray, List.set_cons_zero, List.set_cons_succ]
                refine wpAnyH_take (i := 25) (oi := ({ dst := some 36, op := Op.move (Operand.tmp 5), type := 5, pos := "right.go:29", after := #[{ on := 24, ground := Ground.guard }], guard := some (24, false) } : Oper)) (v := ?v4x25) rfl (by kernel_rfl) (by kernel_rfl) (by kernel_rfl) (fun _ _ _ h => h) (Or.inl ⟨by rfl, ?hy4x25⟩) hHeld2 ?_
                case hy4x25 => ((intro w hSw); (try dsimp only at hSw); go_simp; try with_reducible rfl)
                try simp only [Act.put, List.setIfInBounds_toArray, List.set_cons_zero, List.set_cons_succ]
                refine wpAnyH_take (i := 26) (oi := ({ dst := some 37, op := Op.fieldAddr 43 (Operand.tmp 2) 3, type := 0, pos := "right.go:29", after := #[{ on := 24, ground := Ground.guard }], guard := some (24, false) } : Oper)) (v := ?v4x26) rfl (by kernel_rfl) (by kernel_rfl) (by kernel_rfl) (fun _ _ _ h => h) (Or.inl ⟨by rfl, ?hy4x26⟩) hHeld2 ?_
                case hy4x26 => ((intro w hSw); (try dsimp only at hSw); go_simp; try with_reducible rfl)
                try simp only [Act.put, List.setIfInBounds_toArray, List.set_cons_zero, List.set_cons_succ]
                refine wpAnyH_take (i := 27) (oi := ({ dst := some 38, op := Op.load 41 (Operand.tmp 37), type := 41, pos := "right.go:29", after := #[{ on := 26, ground := Ground.data }, { on := 24, ground := Ground.guard }], guard := some (24, false) } : Oper)) (v := ?v4x27) rfl (by kernel_rfl) (by kernel_rfl) (by kernel_rfl) (fun _ _ _ h => h) (Or.inl ⟨by rfl, ?hy4x27⟩) hHeld2 ?_
                case hy4x27 => ((intro w hSw); (try dsimp only at hSw); go_simp; try with_reducible rfl)
                try simp only [Act.put, List.setIfInBounds_toArray, List.set_cons_zero, List.set_cons_succ]
                refine wpAnyH_ready (rs := [28]) (by kernel_rfl) (by simp) ?_
                refine AllReadyH.cons (o := ({ dst := some 39, op := Op.call { callee := Callee.value (Operand.func 48), args := #[Operand.tmp 36, Operand.tmp 38], argTypes := #[5, 41] }, type := 4, pos := "right.go:29", after := #[{ on := 25, ground := Ground.data }, { on := 27, ground := Ground.data }, { on := 24, ground := Ground.chain }, { on := 24, ground := Ground.guard }], guard := some (24, false) } : Oper)) rfl (fun K hK => ?_) AllReadyH.nil
                go_simp
                go_at_call 48
                refine (HK _ (hHeld2).2.2.2.2.2.2).out.mono ?_
                rintro e wi ⟨rfl, rfl⟩
                try go_wp2_with fail
                refine hK.out _ _ hHeld2 (fun hHeld3 => ?_)
                clear hK K hHeld2
                try simp only [Act.put, List.setIfInBounds_toArray, List.set_cons_zero, List.set_cons_succ]
                refine wpAnyH_take (i := 29) (oi := ({ dst := some 40, op := Op.unOp UnOp.not 4 (Operand.tmp 39), type := 4, pos := "right.go:29", after := #[{ on := 28, ground := Ground.data }, { on := 24, ground := Ground.guard }], guard := some (24, false) } : Oper)) (v := ?v4x29) rfl (by kernel_rfl) (by kernel_rfl) (by kernel_rfl) (fun _ _ _ h => h) (Or.inl ⟨by rfl, ?hy4x29⟩) hHeld3 ?_
                case hy4x29 => ((intro w hSw); (try dsimp only at hSw); go_simp; try with_reducible rfl)
                try simp only [Act.put, List.setIfInBounds_toArray, List.set_cons_zero, List.set_cons_succ]
                refine wpAnyH_take (i := 30) (oi := ({ dst := some 41, op := Op.pick (Operand.tmp 35) (Operand.const (Value.bool true)) (Operand.tmp 40), type := 4, pos := "right.go:29", after := #[{ on := 24, ground := Ground.data }, { on := 29, ground := Ground.data }], guard := none } : Oper)) (v := ?v4x30) rfl (by kernel_rfl) (by kernel_rfl) (by kernel_rfl) (fun _ _ _ h => h) (Or.inl ⟨by rfl, ?hy4x30⟩) hHeld3 ?_
                case hy4x30 => ((intro w hSw); (try dsimp only at hSw); go_simp; try with_reducible rfl)
                try simp only [Act.put, List.setIfInBounds_toArray, List.set_cons_zero, List.set_cons_succ]
                refine wpAnyH_done (by kernel_rfl) ?_ _
                have hbel := hHeld3.2.2.2.2.2.2
                clear hHeld3
                go_wp2_with fail
                go_meet
                exact ⟨by rw [HGG.out]; rfl, hbel⟩
            · have e4 : ((x.to.length : Int) == (j : Int)) = false := by simp; omega
              have e4' : ((x.to.length : Int) != (j : Int)) = true := by simp; omega
              have HGG := Lib.hid (show g = false by rw [HG.out]; simp [h4])
              clear h4
              refine wp_region_held_drew (S := (fun w' => w'.cell? ⟨w.heap.size, 0, none⟩ = some (.int .i64 x.pc) ∧ w'.cell? ⟨w.heap.size, 1, none⟩ = some (.int .i64 x.op) ∧ w'.cell? ⟨w.heap.size, 2, none⟩ = some (.int .i64 x.n) ∧ w'.cell? ⟨w.heap.size, 3, none⟩ = some (.slice Ak x.keys.length ck) ∧ w'.cell? ⟨w.heap.size, 4, none⟩ = some (.slice At x.to.length ct) ∧ w.heap.size < w'.heap.size ∧ Below w.heap.size w w')) (by kernel_rfl) (⟨c0, c1, c2, c3, c4, hz, B0.out.drew⟩) (fun hHeld => ?_)
              refine wpAnyH_take (i := 0) (oi := ({ dst := some 11, op := Op.fieldAddr 43 (Operand.tmp 2) 2, type := 0, pos := "right.go:29", after := #[], guard := none } : Oper)) (v := ?v5x0) rfl (by kernel_rfl) (by kernel_rfl) (by kernel_rfl) (fun _ _ _ h => h) (Or.inl ⟨by rfl, ?hy5x0⟩) hHeld ?_
              case hy5x0 => ((intro w hSw); (try dsimp only at hSw); go_simp; try with_reducible rfl)
              try simp only [Act.put, List.setIfInBounds_toArray, List.set_cons_zero, List.set_cons_succ]
              refine wpAnyH_take (i := 1) (oi := ({ dst := some 12, op := Op.load 3 (Operand.tmp 11), type := 3, pos := "right.go:29", after := #[{ on := 0, ground := Ground.data }], guard := none } : Oper)) (v := ?v5x1) rfl (by kernel_rfl) (by kernel_rfl) (by kernel_rfl) (fun _ _ _ h => h) (Or.inl ⟨by rfl, ?hy5x1⟩) hHeld ?_
              case hy5x1 => ((intro w hSw); (try dsimp only at hSw); go_simp; try with_reducible rfl)
              try simp only [Act.put, List.setIfInBounds_toArray, List.set_cons_zero, List.set_cons_succ]
              refine wpAnyH_take (i := 2) (oi := ({ dst := some 13, op := Op.binOp BinOp.lss 3 (Operand.tmp 12) (Operand.const (Value.int IntKind.i64 0)) 3, type := 4, pos := "right.go:29", after := #[{ on := 1, ground := Ground.data }], guard := none } : Oper)) (v := ?v5x2) rfl (by kernel_rfl) (by kernel_rfl) (by kernel_rfl) (fun _ _ _ h => h) (Or.inl ⟨by rfl, ?hy5x2⟩) hHeld ?_
              case hy5x2 => ((intro w hSw); (try dsimp only at hSw); go_simp; try with_reducible rfl)
              try simp only [Act.put, List.setIfInBounds_toArray, List.set_cons_zero, List.set_cons_succ]
              refine wpAnyH_take (i := 3) (oi := ({ dst := some 14, op := Op.move (Operand.tmp 13), type := 4, pos := "right.go:29", after := #[{ on := 2, ground := Ground.data }], guard := none } : Oper)) (v := ?v5x3) rfl (by kernel_rfl) (by kernel_rfl) (by kernel_rfl) (fun _ _ _ h => h) (Or.inl ⟨by rfl, ?hy5x3⟩) hHeld ?_
              case hy5x3 => ((intro w hSw); (try dsimp only at hSw); go_simp; try with_reducible rfl)
              try simp only [Act.put, List.setIfInBounds_toArray, List.set_cons_zero, List.set_cons_succ]
              refine wpAnyH_take (i := 4) (oi := ({ dst := some 15, op := Op.fieldAddr 43 (Operand.tmp 2) 2, type := 0, pos := "right.go:29", after := #[{ on := 3, ground := Ground.guard }], guard := some (3, false) } : Oper)) (v := ?v5x4) rfl (by kernel_rfl) (by kernel_rfl) (by kernel_rfl) (fun _ _ _ h => h) (Or.inl ⟨by rfl, ?hy5x4⟩) hHeld ?_
              case hy5x4 => ((intro w hSw); (try dsimp only at hSw); go_simp; try with_reducible rfl)
              try simp only [Act.put, List.setIfInBounds_toArray, List.set_cons_zero, List.set_cons_succ]
              refine wpAnyH_take (i := 5) (oi := ({ dst := some 16, op := Op.load 3 (Operand.tmp 15), type := 3, pos := "right.go:29", after := #[{ on := 4, ground := Ground.data }, { on := 3, ground := Ground.guard }], guard := some (3, false) } : Oper)) (v := ?v5x5) rfl (by kernel_rfl) (by kernel_rfl) (by kernel_rfl) (fun _ _ _ h => h) (Or.inl ⟨by rfl, ?hy5x5⟩) hHeld ?_
              case hy5x5 => ((intro w hSw); (try dsimp only at hSw); go_simp; try with_reducible rfl)
              try simp only [Act.put, List.setIfInBounds_toArray, List.set_cons_zero, List.set_cons_succ]
              refine wpAnyH_take (i := 6) (oi := ({ dst := some 17, op := Op.move (Operand.tmp 5), type := 5, pos := "right.go:29", after := #[{ on := 3, ground := Ground.guard }], guard := some (3, false) } : Oper)) (v := ?v5x6) rfl (by kernel_rfl) (by kernel_rfl) (by kernel_rfl) (fun _ _ _ h => h) (Or.inl ⟨by rfl, ?hy5x6⟩) hHeld ?_
              case hy5x6 => ((intro w hSw); (try dsimp only at hSw); go_simp; try with_reducible rfl)
              try simp only [Act.put, List.setIfInBounds_toArray, List.set_cons_zero, List.set_cons_succ]
              refine wpAnyH_ready (rs := [7]) (by kernel_rfl) (by simp) ?_
              refine AllReadyH.cons (o := ({ dst := some 18, op := Op.call { callee := Callee.value (Operand.func 46), args := #[Operand.tmp 17], argTypes := #[5] }, type := 3, pos := "right.go:29", after := #[{ on := 6, ground := Ground.data }, { on := 3, ground := Ground.chain }, { on := 3, ground := Ground.guard }], guard := some (3, false) } : Oper)) rfl (fun K hK => ?_) AllReadyH.nil
              go_simp
              go_at_call 46
              refine (HM _).out.mono ?_
              rintro e wi ⟨rfl, rfl⟩
              try go_wp2_with fail
              refine hK.out _ _ hHeld (fun hHeld1 => ?_)
              clear hK K hHeld
              try simp only [Act.put, List.setIfInBounds_toArray, List.set_cons_zero, List.set_cons_succ]
              refine wpAnyH_take (i := 8) (oi := ({ dst := some 19, op := Op.binOp BinOp.gtr 3 (Operand.tmp 16) (Operand.tmp 18) 3, type := 4, pos := "right.go:29", after := #[{ on := 5, ground := Ground.data }, { on := 7, ground := Ground.data }, { on := 3, ground := Ground.guard }], guard := some (3, false) } : Oper)) (v := ?v5x8) rfl (by kernel_rfl) (by kernel_rfl) (by kernel_rfl) (fun _ _ _ h => h) (Or.inl ⟨by rfl, ?hy5x8⟩) hHeld1 ?_
              case hy5x8 => ((intro w hSw); (try dsimp only at hSw); go_simp; try with_reducible rfl)
              try simp only [Act.put, List.setIfInBounds_toArray, List.set_cons_zero, List.set_cons_succ]
              refine wpAnyH_take (i := 9) (oi := ({ dst := some 20, op := Op.pick (Operand.tmp 14) (Operand.const (Value.bool true)) (Operand.tmp 19), type := 4, pos := "right.go:29", after := #[{ on := 3, ground := Ground.data }, { on := 8, ground := Ground.data }], guard := none } : Oper)) (v := ?v5x9) rfl (by kernel_rfl) (by kernel_rfl) (by kernel_rfl) (fun _ _ _ h => h) (Or.inl ⟨by rfl, ?hy5x9⟩) hHeld1 ?_
              case hy5x9 => ((intro w hSw); (try dsimp only at hSw); go_simp; try with_reducible rfl)
              try simp only [Act.put, List.setIfInBounds_toArray, List.set_cons_zero, List.set_cons_succ]
              refine wpAnyH_take (i := 10) (oi := ({ dst := some 21, op := Op.move (Operand.tmp 20), type := 4, pos := "right.go:29", after := #[{ on := 9, ground := Ground.data }, { on := 7, ground := Ground.chain }], guard := none } : Oper)) (v := ?v5x10) rfl (by kernel_rfl) (by kernel_rfl) (by kernel_rfl) (fun _ _ _ h => h) (Or.inl ⟨by rfl, ?hy5x10⟩) hHeld1 ?_
              case hy5x10 => ((intro w hSw); (try dsimp only at hSw); go_simp; try with_reducible rfl)
              try simp only [Act.put, List.setIfInBounds_toArray, List.set_cons_zero, List.set_cons_succ]
              refine wpAnyH_take (i := 11) (oi := ({ dst := some 22, op := Op.fieldAddr 43 (Operand.tmp 2) 0, type := 0, pos := "right.go:29", after := #[{ on := 10, ground := Ground.guard }], guard := some (10, false) } : Oper)) (v := ?v5x11) rfl (by kernel_rfl) (by kernel_rfl) (by kernel_rfl) (fun _ _ _ h => h) (Or.inl ⟨by rfl, ?hy5x11⟩) hHeld1 ?_
              case hy5x11 => ((intro w hSw); (try dsimp only at hSw); go_simp; try with_reducible rfl)
              try simp only [Act.put, List.setIfInBounds_toArray, List.set_cons_zero, List.set_cons_succ]
              refine wpAnyH_take (i := 12) (oi := ({ dst := some 23, op := Op.load 3 (Operand.tmp 22), type := 3, pos := "right.go:29", after := #[{ on := 11, ground := Ground.data }, { on := 10, ground := Ground.guard }], guard := some (10, false) } : Oper)) (v := ?v5x12) rfl (by kernel_rfl) (by kernel_rfl) (by kernel_rfl) (fun _ _ _ h => h) (Or.inl ⟨by rfl, ?hy5x12⟩) hHeld1 ?_
              case hy5x12 => ((intro w hSw); (try dsimp only at hSw); go_simp; try with_reducible rfl)
              try simp only [Act.put, List.setIfInBounds_toArray, List.set_cons_zero, List.set_cons_succ]
              refine wpAnyH_take (i := 13) (oi := ({ dst := some 24, op := Op.move (Operand.tmp 1), type := 3, pos := "right.go:29", after := #[{ on := 10, ground := Ground.guard }], guard := some (10, false) } : Oper)) (v := ?v5x13) rfl (by kernel_rfl) (by kernel_rfl) (by kernel_rfl) (fun _ _ _ h => h) (Or.inl ⟨by rfl, ?hy5x13⟩) hHeld1 ?_
              case hy5x13 => ((intro w hSw); (try dsimp only at hSw); go_simp; try with_reducible rfl)
              try simp only [Act.put, List.setIfInBounds_toArray, List.set_cons_zero, List.set_cons_succ]
              refine wpAnyH_take (i := 14) (oi := ({ dst := some 25, op := Op.binOp BinOp.neq 3 (Operand.tmp 23) (Operand.tmp 24) 3, type := 4, pos := "right.go:29", after := #[{ on := 12, ground := Ground.data }, { on := 13, ground := Ground.data }, { on := 10, ground := Ground.guard }], guard := some (10, false) } : Oper)) (v := ?v5x14) rfl (by kernel_rfl) (by kernel_rfl) (by kernel_rfl) (fun _ _ _ h => h) (Or.inl ⟨by rfl, ?hy5x14⟩) hHeld1 ?_
              case hy5x14 => ((intro w hSw); (try dsimp only at hSw); go_simp; try with_reducible rfl)
              try simp only [Act.put, List.setIfInBounds_toArray, List.set_cons_zero, List.set_cons_succ]
              refine wpAnyH_take (i := 15) (oi := ({ dst := some 26, op := Op.pick (Operand.tmp 21) (Operand.const (Value.bool true)) (Operand.tmp 25), type := 4, pos := "right.go:29", after := #[{ on := 10, ground := Ground.data }, { on := 14, ground := Ground.data }], guard := none } : Oper)) (v := ?v5x15) rfl (by kernel_rfl) (by kernel_rfl) (by kernel_rfl) (fun _ _ _ h => h) (Or.inl ⟨by rfl, ?hy5x15⟩) hHeld1 ?_
              case hy5x15 => ((intro w hSw); (try dsimp only at hSw); go_simp; try with_reducible rfl)
              try simp only [Act.put, List.setIfInBounds_toArray, List.set_cons_zero, List.set_cons_succ]
              refine wpAnyH_take (i := 16) (oi := ({ dst := some 27, op := Op.move (Operand.tmp 26), type := 4, pos := "right.go:29", after := #[{ on := 15, ground := Ground.data }, { on := 10, ground := Ground.chain }], guard := none } : Oper)) (v := ?v5x16) rfl (by kernel_rfl) (by kernel_rfl) (by kernel_rfl) (fun _ _ _ h => h) (Or.inl ⟨by rfl, ?hy5x16⟩) hHeld1 ?_
              case hy5x16 => ((intro w hSw); (try dsimp only at hSw); go_simp; try with_reducible rfl)
              try simp only [Act.put, List.setIfInBounds_toArray, List.set_cons_zero, List.set_cons_succ]
              refine wpAnyH_take (i := 17) (oi := ({ dst := some 28, op := Op.fieldAddr 43 (Operand.tmp 2) 4, type := 0, pos := "right.go:29", after := #[{ on := 16, ground := Ground.guard }], guard := some (16, false) } : Oper)) (v := ?v5x17) rfl (by kernel_rfl) (by kernel_rfl) (by kernel_rfl) (fun _ _ _ h => h) (Or.inl ⟨by rfl, ?hy5x17⟩) hHeld1 ?_
              case hy5x17 => ((intro w hSw); (try dsimp only at hSw); go_simp; try with_reducible rfl)
              try simp only [Act.put, List.setIfInBounds_toArray, List.set_cons_zero, List.set_cons_succ]
              refine wpAnyH_take (i := 18) (oi := ({ dst := some 29, op := Op.load 41 (Operand.tmp 28), type := 41, pos := "right.go:29", after := #[{ on := 17, ground := Ground.data }, { on := 16, ground := Ground.guard }], guard := some (16, false) } : Oper)) (v := ?v5x18) rfl (by kernel_rfl) (by kernel_rfl) (by kernel_rfl) (fun _ _ _ h => h) (Or.inl ⟨by rfl, ?hy5x18⟩) hHeld1 ?_
              case hy5x18 => ((intro w hSw); (try dsimp only at hSw); go_simp; try with_reducible rfl)
              try simp only [Act.put, List.setIfInBounds_toArray, List.set_cons_zero, List.set_cons_succ]
              refine wpAnyH_take (i := 19) (oi := ({ dst := some 30, op := Op.call { callee := Callee.builtin Builtin.len, args := #[Operand.tmp 29], argTypes := #[41] }, type := 3, pos := "right.go:29", after := #[{ on := 18, ground := Ground.data }, { on := 16, ground := Ground.guard }], guard := some (16, false) } : Oper)) (v := ?v5x19) rfl (by kernel_rfl) (by kernel_rfl) (by kernel_rfl) (fun _ _ _ h => h) (Or.inl ⟨by rfl, ?hy5x19⟩) hHeld1 ?_
              case hy5x19 => ((intro w hSw); (try dsimp only at hSw); go_simp; try with_reducible rfl)
              try simp only [Act.put, List.setIfInBounds_toArray, List.set_cons_zero, List.set_cons_succ]
              refine wpAnyH_take (i := 20) (oi := ({ dst := some 31, op := Op.load 43 (Operand.tmp 2), type := 43, pos := "right.go:29", after := #[{ on := 16, ground := Ground.guard }], guard := some (16, false) } : Oper)) (v := ?v5x20) rfl (by kernel_rfl) (by kernel_rfl) (by kernel_rfl) (fun _ _ _ h => h) (Or.inl ⟨by rfl, ?hy5x20⟩) hHeld1 ?_
              case hy5x20 => ((intro w hSw); (try dsimp only at hSw); go_simp; try with_reducible rfl)
              try simp only [Act.put, List.setIfInBounds_toArray, List.set_cons_zero, List.set_cons_succ]
              refine wpAnyH_ready (rs := [21]) (by kernel_rfl) (by simp) ?_
              refine AllReadyH.cons (o := ({ dst := some 32, op := Op.call { callee := Callee.value (Operand.func 47), args := #[Operand.tmp 31], argTypes := #[43] }, type := 3, pos := "right.go:29", after := #[{ on := 20, ground := Ground.data }, { on := 16, ground := Ground.chain }, { on := 16, ground := Ground.guard }], guard := some (16, false) } : Oper)) rfl (fun K hK => ?_) AllReadyH.nil
              go_simp
              go_at_call 47
              refine (HJ _).out.mono ?_
              rintro e wi ⟨rfl, hb⟩
              try go_wp2_with fail
              have hS2 := hHeld1
              obtain ⟨x0, x1, x2, x3, x4, x5, x6⟩ := hS2
              refine hK.out _ _ ⟨keepc hb x5 (Nat.le_refl _) x0, keepc hb x5 (Nat.le_refl _) x1, keepc hb x5 (Nat.le_refl _) x2, keepc hb x5 (Nat.le_refl _) x3, keepc hb x5 (Nat.le_refl _) x4, Nat.lt_of_lt_of_le x5 hb.size, Below.link x6 hb⟩ (fun hHeld2 => ?_)
              clear hK K hHeld1 x0 x1 x2 x3 x4 x5 x6 hb
              try simp only [Act.put, List.setIfInBounds_toArray, List.set_cons_zero, List.set_cons_succ]
              refine wpAnyH_take (i := 22) (oi := ({ dst := some 33, op := Op.binOp BinOp.neq 3 (Operand.tmp 30) (Operand.tmp 32) 3, type := 4, pos := "right.go:29", after := #[{ on := 19, ground := Ground.data }, { on := 21, ground := Ground.data }, { on := 16, ground := Ground.guard }], guard := some (16, false) } : Oper)) (v := ?v5x22) rfl (by kernel_rfl) (by kernel_rfl) (by kernel_rfl) (fun _ _ _ h => h) (Or.inl ⟨by rfl, ?hy5x22⟩) hHeld2 ?_
              case hy5x22 => ((intro w hSw); (try dsimp only at hSw); go_simp; try with_reducible rfl)
              try simp only [Act.put, List.setIfInBounds_toArray, List.set_cons_zero, List.set_cons_succ]
              refine wpAnyH_take (i := 23) (oi := ({ dst := some 34, op := Op.pick (Operand.tmp 27) (Operand.const (Value.bool true)) (Operand.tmp 33), type := 4, pos := "right.go:29", after := #[{ on := 16, ground := Ground.data }, { on := 22, ground := Ground.data }], guard := none } : Oper)) (v := ?v5x23) rfl (by kernel_rfl) (by kernel_rfl) (by kernel_rfl) (fun _ _ _ h => h) (Or.inl ⟨by rfl, ?hy5x23⟩) hHeld2 ?_
              case hy5x23 => ((intro w hSw); (try dsimp only at hSw); go_simp; try with_reducible rfl)
              try simp only [Act.put, List.setIfInBounds_toArray, List.set_cons_zero, List.set_cons_succ]
              refine wpAnyH_take (i := 24) (oi := ({ dst := some 35, op := Op.move (Operand.tmp 34), type := 4, pos := "right.go:29", after := #[{ on := 23, ground := Ground.data }, { on := 21, ground := Ground.chain }], guard := none } : Oper)) (v := ?v5x24) rfl (by kernel_rfl) (by kernel_rfl) (by kernel_rfl) (fun _ _ _ h => h) (Or.inl ⟨by rfl, ?hy5x24⟩) hHeld2 ?_
              case hy5x24 => ((intro w hSw); (try dsimp only at hSw); go_simp; try with_reducible rfl)
              try simp only [Act.put, List.setIfInBounds_toArray, List.set_cons_zero, List.set_cons_succ]
              refine wpAnyH_take (i := 25) (oi := ({ dst := some 36, op := Op.move (Operand.tmp 5), type := 5, pos := "right.go:29", after := #[{ on := 24, ground := Ground.guard }], guard := some (24, false) } : Oper)) (v := undef) rfl (by kernel_rfl) (by kernel_rfl) (by kernel_rfl) (fun _ _ _ h => h) (Or.inr ⟨by rfl, rfl⟩) hHeld2 ?_
              try simp only [Act.put, List.setIfInBounds_toArray, List.set_cons_zero, List.set_cons_succ]
              refine wpAnyH_take (i := 26) (oi := ({ dst := some 37, op := Op.fieldAddr 43 (Operand.tmp 2) 3, type := 0, pos := "right.go:29", after := #[{ on := 24, ground := Ground.guard }], guard := some (24, false) } : Oper)) (v := undef) rfl (by kernel_rfl) (by kernel_rfl) (by kernel_rfl) (fun _ _ _ h => h) (Or.inr ⟨by rfl, rfl⟩) hHeld2 ?_
              try simp only [Act.put, List.setIfInBounds_toArray, List.set_cons_zero, List.set_cons_succ]
              refine wpAnyH_take (i := 27) (oi := ({ dst := some 38, op := Op.load 41 (Operand.tmp 37), type := 41, pos := "right.go:29", after := #[{ on := 26, ground := Ground.data }, { on := 24, ground := Ground.guard }], guard := some (24, false) } : Oper)) (v := undef) rfl (by kernel_rfl) (by kernel_rfl) (by kernel_rfl) (fun _ _ _ h => h) (Or.inr ⟨by rfl, rfl⟩) hHeld2 ?_
              try simp only [Act.put, List.setIfInBounds_toArray, List.set_cons_zero, List.set_cons_succ]
              refine wpAnyH_take (i := 28) (oi := ({ dst := some 39, op := Op.call { callee := Callee.value (Operand.func 48), args := #[Operand.tmp 36, Operand.tmp 38], argTypes := #[5, 41] }, type := 4, pos := "right.go:29", after := #[{ on := 25, ground := Ground.data }, { on := 27, ground := Ground.data }, { on := 24, ground := Ground.chain }, { on := 24, ground := Ground.guard }], guard := some (24, false) } : Oper)) (v := undef) rfl (by kernel_rfl) (by kernel_rfl) (by kernel_rfl) (fun _ _ _ h => h) (Or.inr ⟨by rfl, rfl⟩) hHeld2 ?_
              try simp only [Act.put, List.setIfInBounds_toArray, List.set_cons_zero, List.set_cons_succ]
              refine wpAnyH_take (i := 29) (oi := ({ dst := some 40, op := Op.unOp UnOp.not 4 (Operand.tmp 39), type := 4, pos := "right.go:29", after := #[{ on := 28, ground := Ground.data }, { on := 24, ground := Ground.guard }], guard := some (24, false) } : Oper)) (v := undef) rfl (by kernel_rfl) (by kernel_rfl) (by kernel_rfl) (fun _ _ _ h => h) (Or.inr ⟨by rfl, rfl⟩) hHeld2 ?_
              try simp only [Act.put, List.setIfInBounds_toArray, List.set_cons_zero, List.set_cons_succ]
              refine wpAnyH_take (i := 30) (oi := ({ dst := some 41, op := Op.pick (Operand.tmp 35) (Operand.const (Value.bool true)) (Operand.tmp 40), type := 4, pos := "right.go:29", after := #[{ on := 24, ground := Ground.data }, { on := 29, ground := Ground.data }], guard := none } : Oper)) (v := ?v5x30) rfl (by kernel_rfl) (by kernel_rfl) (by kernel_rfl) (fun _ _ _ h => h) (Or.inl ⟨by rfl, ?hy5x30⟩) hHeld2 ?_
              case hy5x30 => ((intro w hSw); (try dsimp only at hSw); go_simp; try with_reducible rfl)
              try simp only [Act.put, List.setIfInBounds_toArray, List.set_cons_zero, List.set_cons_succ]
              refine wpAnyH_done (by kernel_rfl) ?_ _
              have hbel := hHeld2.2.2.2.2.2.2
              clear hHeld2
              go_wp2_with fail
              go_meet
              exact ⟨by rw [HGG.out]; rfl, hbel⟩
          · have e3 : (x.pc == pc) = false := by simpa using h3
            have e3' : (x.pc != pc) = true := by simpa using h3
            have HGG := Lib.hid (show g = false by rw [HG.out]; simp [h3])
            clear h3
            refine wp_region_held_drew (S := (fun w' => w'.cell? ⟨w.heap.size, 0, none⟩ = some (.int .i64 x.pc) ∧ w'.cell? ⟨w.heap.size, 1, none⟩ = some (.int .i64 x.op) ∧ w'.cell? ⟨w.heap.size, 2, none⟩ = some (.int .i64 x.n) ∧ w'.cell? ⟨w.heap.size, 3, none⟩ = some (.slice Ak x.keys.length ck) ∧ w'.cell? ⟨w.heap.size, 4, none⟩ = some (.slice At x.to.length ct) ∧ w.heap.size < w'.heap.size ∧ Below w.heap.size w w')) (by kernel_rfl) (⟨c0, c1, c2, c3, c4, hz, B0.out.drew⟩) (fun hHeld => ?_)
            refine wpAnyH_take (i := 0) (oi := ({ dst := some 11, op := Op.fieldAddr 43 (Operand.tmp 2) 2, type := 0, pos := "right.go:29", after := #[], guard := none } : Oper)) (v := ?v6x0) rfl (by kernel_rfl) (by kernel_rfl) (by kernel_rfl) (fun _ _ _ h => h) (Or.inl ⟨by rfl, ?hy6x0⟩) hHeld ?_
            case hy6x0 => ((intro w hSw); (try dsimp only at hSw); go_simp; try with_reducible rfl)
            try simp only [Act.put, List.setIfInBounds_toArray, List.set_cons_zero, List.set_cons_succ]
            refine wpAnyH_take (i := 1) (oi := ({ dst := some 12, op := Op.load 3 (Operand.tmp 11), type := 3, pos := "right.go:29", after := #[{ on := 0, ground := Ground.data }], guard := none } : Oper)) (v := ?v6x1) rfl (by kernel_rfl) (by kernel_rfl) (by kernel_rfl) (fun _ _ _ h => h) (Or.inl ⟨by rfl, ?hy6x1⟩) hHeld ?_
            case hy6x1 => ((intro w hSw); (try dsimp only at hSw); go_simp; try with_reducible rfl)
            try simp only [Act.put, List.setIfInBounds_toArray, List.set_cons_zero, List.set_cons_succ]
            refine wpAnyH_take (i := 2) (oi := ({ dst := some 13, op := Op.binOp BinOp.lss 3 (Operand.tmp 12) (Operand.const (Value.int IntKind.i64 0)) 3, type := 4, pos := "right.go:29", after := #[{ on := 1, ground := Ground.data }], guard := none } : Oper)) (v := ?v6x2) rfl (by kernel_rfl) (by kernel_rfl) (by kernel_rfl) (fun _ _ _ h => h) (Or.inl ⟨by rfl, ?hy6x2⟩) hHeld ?_
            case hy6x2 => ((intro w hSw); (try dsimp only at hSw); go_simp; try with_reducible rfl)
            try simp only [Act.put, List.setIfInBounds_toArray, List.set_cons_zero, List.set_cons_succ]
            refine wpAnyH_take (i := 3) (oi := ({ dst := some 14, op := Op.move (Operand.tmp 13), type := 4, pos := "right.go:29", after := #[{ on := 2, ground := Ground.data }], guard := none } : Oper)) (v := ?v6x3) rfl (by kernel_rfl) (by kernel_rfl) (by kernel_rfl) (fun _ _ _ h => h) (Or.inl ⟨by rfl, ?hy6x3⟩) hHeld ?_
            case hy6x3 => ((intro w hSw); (try dsimp only at hSw); go_simp; try with_reducible rfl)
            try simp only [Act.put, List.setIfInBounds_toArray, List.set_cons_zero, List.set_cons_succ]
            refine wpAnyH_take (i := 4) (oi := ({ dst := some 15, op := Op.fieldAddr 43 (Operand.tmp 2) 2, type := 0, pos := "right.go:29", after := #[{ on := 3, ground := Ground.guard }], guard := some (3, false) } : Oper)) (v := ?v6x4) rfl (by kernel_rfl) (by kernel_rfl) (by kernel_rfl) (fun _ _ _ h => h) (Or.inl ⟨by rfl, ?hy6x4⟩) hHeld ?_
            case hy6x4 => ((intro w hSw); (try dsimp only at hSw); go_simp; try with_reducible rfl)
            try simp only [Act.put, List.setIfInBounds_toArray, List.set_cons_zero, List.set_cons_succ]
            refine wpAnyH_take (i := 5) (oi := ({ dst := some 16, op := Op.load 3 (Operand.tmp 15), type := 3, pos := "right.go:29", after := #[{ on := 4, ground := Ground.data }, { on := 3, ground := Ground.guard }], guard := some (3, false) } : Oper)) (v := ?v6x5) rfl (by kernel_rfl) (by kernel_rfl) (by kernel_rfl) (fun _ _ _ h => h) (Or.inl ⟨by rfl, ?hy6x5⟩) hHeld ?_
            case hy6x5 => ((intro w hSw); (try dsimp only at hSw); go_simp; try with_reducible rfl)
            try simp only [Act.put, List.setIfInBounds_toArray, List.set_cons_zero, List.set_cons_succ]
            refine wpAnyH_take (i := 6) (oi := ({ dst := some 17, op := Op.move (Operand.tmp 5), type := 5, pos := "right.go:29", after := #[{ on := 3, ground := Ground.guard }], guard := some (3, false) } : Oper)) (v := ?v6x6) rfl (by kernel_rfl) (by kernel_rfl) (by kernel_rfl) (fun _ _ _ h => h) (Or.inl ⟨by rfl, ?hy6x6⟩) hHeld ?_
            case hy6x6 => ((intro w hSw); (try dsimp only at hSw); go_simp; try with_reducible rfl)
            try simp only [Act.put, List.setIfInBounds_toArray, List.set_cons_zero, List.set_cons_succ]
            refine wpAnyH_ready (rs := [7]) (by kernel_rfl) (by simp) ?_
            refine AllReadyH.cons (o := ({ dst := some 18, op := Op.call { callee := Callee.value (Operand.func 46), args := #[Operand.tmp 17], argTypes := #[5] }, type := 3, pos := "right.go:29", after := #[{ on := 6, ground := Ground.data }, { on := 3, ground := Ground.chain }, { on := 3, ground := Ground.guard }], guard := some (3, false) } : Oper)) rfl (fun K hK => ?_) AllReadyH.nil
            go_simp
            go_at_call 46
            refine (HM _).out.mono ?_
            rintro e wi ⟨rfl, rfl⟩
            try go_wp2_with fail
            refine hK.out _ _ hHeld (fun hHeld1 => ?_)
            clear hK K hHeld
            try simp only [Act.put, List.setIfInBounds_toArray, List.set_cons_zero, List.set_cons_succ]
            refine wpAnyH_take (i := 8) (oi := ({ dst := some 19, op := Op.binOp BinOp.gtr 3 (Operand.tmp 16) (Operand.tmp 18) 3, type := 4, pos := "right.go:29", after := #[{ on := 5, ground := Ground.data }, { on := 7, ground := Ground.data }, { on := 3, ground := Ground.guard }], guard := some (3, false) } : Oper)) (v := ?v6x8) rfl (by kernel_rfl) (by kernel_rfl) (by kernel_rfl) (fun _ _ _ h => h) (Or.inl ⟨by rfl, ?hy6x8⟩) hHeld1 ?_
            case hy6x8 => ((intro w hSw); (try dsimp only at hSw); go_simp; try with_reducible rfl)
            try simp only [Act.put, List.setIfInBounds_toArray, List.set_cons_zero, List.set_cons_succ]
            refine wpAnyH_take (i := 9) (oi := ({ dst := some 20, op := Op.pick (Operand.tmp 14) (Operand.const (Value.bool true)) (Operand.tmp 19), type := 4, pos := "right.go:29", after := #[{ on := 3, ground := Ground.data }, { on := 8, ground := Ground.data }], guard := none } : Oper)) (v := ?v6x9) rfl (by kernel_rfl) (by kernel_rfl) (by kernel_rfl) (fun _ _ _ h => h) (Or.inl ⟨by rfl, ?hy6x9⟩) hHeld1 ?_
            case hy6x9 => ((intro w hSw); (try dsimp only at hSw); go_simp; try with_reducible rfl)
            try simp only [Act.put, List.setIfInBounds_toArray, List.set_cons_zero, List.set_cons_succ]
            refine wpAnyH_take (i := 10) (oi := ({ dst := some 21, op := Op.move (Operand.tmp 20), type := 4, pos := "right.go:29", after := #[{ on := 9, ground := Ground.data }, { on := 7, ground := Ground.chain }], guard := none } : Oper)) (v := ?v6x10) rfl (by kernel_rfl) (by kernel_rfl) (by kernel_rfl) (fun _ _ _ h => h) (Or.inl ⟨by rfl, ?hy6x10⟩) hHeld1 ?_
            case hy6x10 => ((intro w hSw); (try dsimp only at hSw); go_simp; try with_reducible rfl)
            try simp only [Act.put, List.setIfInBounds_toArray, List.set_cons_zero, List.set_cons_succ]
            refine wpAnyH_take (i := 11) (oi := ({ dst := some 22, op := Op.fieldAddr 43 (Operand.tmp 2) 0, type := 0, pos := "right.go:29", after := #[{ on := 10, ground := Ground.guard }], guard := some (10, false) } : Oper)) (v := ?v6x11) rfl (by kernel_rfl) (by kernel_rfl) (by kernel_rfl) (fun _ _ _ h => h) (Or.inl ⟨by rfl, ?hy6x11⟩) hHeld1 ?_
            case hy6x11 => ((intro w hSw); (try dsimp only at hSw); go_simp; try with_reducible rfl)
            try simp only [Act.put, List.setIfInBounds_toArray, List.set_cons_zero, List.set_cons_succ]
            refine wpAnyH_take (i := 12) (oi := ({ dst := some 23, op := Op.load 3 (Operand.tmp 22), type := 3, pos := "right.go:29", after := #[{ on := 11, ground := Ground.data }, { on := 10, ground := Ground.guard }], guard := some (10, false) } : Oper)) (v := ?v6x12) rfl (by kernel_rfl) (by kernel_rfl) (by kernel_rfl) (fun _ _ _ h => h) (Or.inl ⟨by rfl, ?hy6x12⟩) hHeld1 ?_
            case hy6x12 => ((intro w hSw); (try dsimp only at hSw); go_simp; try with_reducible rfl)
            try simp only [Act.put, List.setIfInBounds_toArray, List.set_cons_zero, List.set_cons_succ]
            refine wpAnyH_take (i := 13) (oi := ({ dst := some 24, op := Op.move (Operand.tmp 1), type := 3, pos := "right.go:29", after := #[{ on := 10, ground := Ground.guard }], guard := some (10, false) } : Oper)) (v := ?v6x13) rfl (by kernel_rfl) (by kernel_rfl) (by kernel_rfl) (fun _ _ _ h => h) (Or.inl ⟨by rfl, ?hy6x13⟩) hHeld1 ?_
            case hy6x13 => ((intro w hSw); (try dsimp only at hSw); go_simp; try with_reducible rfl)
            try simp only [Act.put, List.setIfInBounds_toArray, List.set_cons_zero, List.set_cons_succ]
            refine wpAnyH_take (i := 14) (oi := ({ dst := some 25, op := Op.binOp BinOp.neq 3 (Operand.tmp 23) (Operand.tmp 24) 3, type := 4, pos := "right.go:29", after := #[{ on := 12, ground := Ground.data }, { on := 13, ground := Ground.data }, { on := 10, ground := Ground.guard }], guard := some (10, false) } : Oper)) (v := ?v6x14) rfl (by kernel_rfl) (by kernel_rfl) (by kernel_rfl) (fun _ _ _ h => h) (Or.inl ⟨by rfl, ?hy6x14⟩) hHeld1 ?_
            case hy6x14 => ((intro w hSw); (try dsimp only at hSw); go_simp; try with_reducible rfl)
            try simp only [Act.put, List.setIfInBounds_toArray, List.set_cons_zero, List.set_cons_succ]
            refine wpAnyH_take (i := 15) (oi := ({ dst := some 26, op := Op.pick (Operand.tmp 21) (Operand.const (Value.bool true)) (Operand.tmp 25), type := 4, pos := "right.go:29", after := #[{ on := 10, ground := Ground.data }, { on := 14, ground := Ground.data }], guard := none } : Oper)) (v := ?v6x15) rfl (by kernel_rfl) (by kernel_rfl) (by kernel_rfl) (fun _ _ _ h => h) (Or.inl ⟨by rfl, ?hy6x15⟩) hHeld1 ?_
            case hy6x15 => ((intro w hSw); (try dsimp only at hSw); go_simp; try with_reducible rfl)
            try simp only [Act.put, List.setIfInBounds_toArray, List.set_cons_zero, List.set_cons_succ]
            refine wpAnyH_take (i := 16) (oi := ({ dst := some 27, op := Op.move (Operand.tmp 26), type := 4, pos := "right.go:29", after := #[{ on := 15, ground := Ground.data }, { on := 10, ground := Ground.chain }], guard := none } : Oper)) (v := ?v6x16) rfl (by kernel_rfl) (by kernel_rfl) (by kernel_rfl) (fun _ _ _ h => h) (Or.inl ⟨by rfl, ?hy6x16⟩) hHeld1 ?_
            case hy6x16 => ((intro w hSw); (try dsimp only at hSw); go_simp; try with_reducible rfl)
            try simp only [Act.put, List.setIfInBounds_toArray, List.set_cons_zero, List.set_cons_succ]
            refine wpAnyH_take (i := 17) (oi := ({ dst := some 28, op := Op.fieldAddr 43 (Operand.tmp 2) 4, type := 0, pos := "right.go:29", after := #[{ on := 16, ground := Ground.guard }], guard := some (16, false) } : Oper)) (v := undef) rfl (by kernel_rfl) (by kernel_rfl) (by kernel_rfl) (fun _ _ _ h => h) (Or.inr ⟨by rfl, rfl⟩) hHeld1 ?_
            try simp only [Act.put, List.setIfInBounds_toArray, List.set_cons_zero, List.set_cons_succ]
            refine wpAnyH_take (i := 18) (oi := ({ dst := some 29, op := Op.load 41 (Operand.tmp 28), type := 41, pos := "right.go:29", after := #[{ on := 17, ground := Ground.data }, { on := 16, ground := Ground.guard }], guard := some (16, false) } : Oper)) (v := undef) rfl (by kernel_rfl) (by kernel_rfl) (by kernel_rfl) (fun _ _ _ h => h) (Or.inr ⟨by rfl, rfl⟩) hHeld1 ?_
            try simp only [Act.put, List.setIfInBounds_toArray, List.set_cons_zero, List.set_cons_succ]
            refine wpAnyH_take (i := 19) (oi := ({ dst := some 30, op := Op.call { callee := Callee.builtin Builtin.len, args := #[Operand.tmp 29], argTypes := #[41] }, type := 3, pos := "right.go:29", after := #[{ on := 18, ground := Ground.data }, { on := 16, ground := Ground.guard }], guard := some (16, false) } : Oper)) (v := undef) rfl (by kernel_rfl) (by kernel_rfl) (by kernel_rfl) (fun _ _ _ h => h) (Or.inr ⟨by rfl, rfl⟩) hHeld1 ?_
            try simp only [Act.put, List.setIfInBounds_toArray, List.set_cons_zero, List.set_cons_succ]
            refine wpAnyH_take (i := 20) (oi := ({ dst := some 31, op := Op.load 43 (Operand.tmp 2), type := 43, pos := "right.go:29", after := #[{ on := 16, ground := Ground.guard }], guard := some (16, false) } : Oper)) (v := undef) rfl (by kernel_rfl) (by kernel_rfl) (by kernel_rfl) (fun _ _ _ h => h) (Or.inr ⟨by rfl, rfl⟩) hHeld1 ?_
            try simp only [Act.put, List.setIfInBounds_toArray, List.set_cons_zero, List.set_cons_succ]
            refine wpAnyH_take (i := 21) (oi := ({ dst := some 32, op := Op.call { callee := Callee.value (Operand.func 47), args := #[Operand.tmp 31], argTypes := #[43] }, type := 3, pos := "right.go:29", after := #[{ on := 20, ground := Ground.data }, { on := 16, ground := Ground.chain }, { on := 16, ground := Ground.guard }], guard := some (16, false) } : Oper)) (v := undef) rfl (by kernel_rfl) (by kernel_rfl) (by kernel_rfl) (fun _ _ _ h => h) (Or.inr ⟨by rfl, rfl⟩) hHeld1 ?_
            try simp only [Act.put, List.setIfInBounds_toArray, List.set_cons_zero, List.set_cons_succ]
            refine wpAnyH_take (i := 22) (oi := ({ dst := some 33, op := Op.binOp BinOp.neq 3 (Operand.tmp 30) (Operand.tmp 32) 3, type := 4, pos := "right.go:29", after := #[{ on := 19, ground := Ground.data }, { on := 21, ground := Ground.data }, { on := 16, ground := Ground.guard }], guard := some (16, false) } : Oper)) (v := undef) rfl (by kernel_rfl) (by kernel_rfl) (by kernel_rfl) (fun _ _ _ h => h) (Or.inr ⟨by rfl, rfl⟩) hHeld1 ?_
            try simp only [Act.put, List.setIfInBounds_toArray, List.set_cons_zero, List.set_cons_succ]
            refine wpAnyH_take (i := 23) (oi := ({ dst := some 34, op := Op.pick (Operand.tmp 27) (Operand.const (Value.bool true)) (Operand.tmp 33), type := 4, pos := "right.go:29", after := #[{ on := 16, ground := Ground.data }, { on := 22, ground := Ground.data }], guard := none } : Oper)) (v := ?v6x23) rfl (by kernel_rfl) (by kernel_rfl) (by kernel_rfl) (fun _ _ _ h => h) (Or.inl ⟨by rfl, ?hy6x23⟩) hHeld1 ?_
            case hy6x23 => ((intro w hSw); (try dsimp only at hSw); go_simp; try with_reducible rfl)
            try simp only [Act.put, List.setIfInBounds_toArray, List.set_cons_zero, List.set_cons_succ]
            refine wpAnyH_take (i := 24) (oi := ({ dst := some 35, op := Op.move (Operand.tmp 34), type := 4, pos := "right.go:29", after := #[{ on := 23, ground := Ground.data }, { on := 21, ground := Ground.chain }], guard := none } : Oper)) (v := ?v6x24) rfl (by kernel_rfl) (by kernel_rfl) (by kernel_rfl) (fun _ _ _ h => h) (Or.inl ⟨by rfl, ?hy6x24⟩) hHeld1 ?_
            case hy6x24 => ((intro w hSw); (try dsimp only at hSw); go_simp; try with_reducible rfl)
            try simp only [Act.put, List.setIfInBounds_toArray, List.set_cons_zero, List.set_cons_succ]
            refine wpAnyH_take (i := 25) (oi := ({ dst := some 36, op := Op.move (Operand.tmp 5), type := 5, pos := "right.go:29", after := #[{ on := 24, ground := Ground.guard }], guard := some (24, false) } : Oper)) (v := undef) rfl (by kernel_rfl) (by kernel_rfl) (by kernel_rfl) (fun _ _ _ h => h) (Or.inr ⟨by rfl, rfl⟩) hHeld1 ?_
            try simp only [Act.put, List.setIfInBounds_toArray, List.set_cons_zero, List.set_cons_succ]
            refine wpAnyH_take (i := 26) (oi := ({ dst := some 37, op := Op.fieldAddr 43 (Operand.tmp 2) 3, type := 0, pos := "right.go:29", after := #[{ on := 24, ground := Ground.guard }], guard := some (24, false) } : Oper)) (v := undef) rfl (by kernel_rfl) (by kernel_rfl) (by kernel_rfl) (fun _ _ _ h => h) (Or.inr ⟨by rfl, rfl⟩) hHeld1 ?_
            try simp only [Act.put, List.setIfInBounds_toArray, List.set_cons_zero, List.set_cons_succ]
            refine wpAnyH_take (i := 27) (oi := ({ dst := some 38, op := Op.load 41 (Operand.tmp 37), type := 41, pos := "right.go:29", after := #[{ on := 26, ground := Ground.data }, { on := 24, ground := Ground.guard }], guard := some (24, false) } : Oper)) (v := undef) rfl (by kernel_rfl) (by kernel_rfl) (by kernel_rfl) (fun _ _ _ h => h) (Or.inr ⟨by rfl, rfl⟩) hHeld1 ?_
            try simp only [Act.put, List.setIfInBounds_toArray, List.set_cons_zero, List.set_cons_succ]
            refine wpAnyH_take (i := 28) (oi := ({ dst := some 39, op := Op.call { callee := Callee.value (Operand.func 48), args := #[Operand.tmp 36, Operand.tmp 38], argTypes := #[5, 41] }, type := 4, pos := "right.go:29", after := #[{ on := 25, ground := Ground.data }, { on := 27, ground := Ground.data }, { on := 24, ground := Ground.chain }, { on := 24, ground := Ground.guard }], guard := some (24, false) } : Oper)) (v := undef) rfl (by kernel_rfl) (by kernel_rfl) (by kernel_rfl) (fun _ _ _ h => h) (Or.inr ⟨by rfl, rfl⟩) hHeld1 ?_
            try simp only [Act.put, List.setIfInBounds_toArray, List.set_cons_zero, List.set_cons_succ]
            refine wpAnyH_take (i := 29) (oi := ({ dst := some 40, op := Op.unOp UnOp.not 4 (Operand.tmp 39), type := 4, pos := "right.go:29", after := #[{ on := 28, ground := Ground.data }, { on := 24, ground := Ground.guard }], guard := some (24, false) } : Oper)) (v := undef) rfl (by kernel_rfl) (by kernel_rfl) (by kernel_rfl) (fun _ _ _ h => h) (Or.inr ⟨by rfl, rfl⟩) hHeld1 ?_
            try simp only [Act.put, List.setIfInBounds_toArray, List.set_cons_zero, List.set_cons_succ]
            refine wpAnyH_take (i := 30) (oi := ({ dst := some 41, op := Op.pick (Operand.tmp 35) (Operand.const (Value.bool true)) (Operand.tmp 40), type := 4, pos := "right.go:29", after := #[{ on := 24, ground := Ground.data }, { on := 29, ground := Ground.data }], guard := none } : Oper)) (v := ?v6x30) rfl (by kernel_rfl) (by kernel_rfl) (by kernel_rfl) (fun _ _ _ h => h) (Or.inl ⟨by rfl, ?hy6x30⟩) hHeld1 ?_
            case hy6x30 => ((intro w hSw); (try dsimp only at hSw); go_simp; try with_reducible rfl)
            try simp only [Act.put, List.setIfInBounds_toArray, List.set_cons_zero, List.set_cons_succ]
            refine wpAnyH_done (by kernel_rfl) ?_ _
            have hbel := hHeld1.2.2.2.2.2.2
            clear hHeld1
            go_wp2_with fail
            go_meet
            exact ⟨by rw [HGG.out]; rfl, hbel⟩
    case rest =>
      obtain ⟨rfl, hb⟩ := hcut
      have BW := Lib.hid hb
      clear hb c0 c1 c2 c3 c4 HG
      cases g with
      | true =>
        go_wp2
        go_ret
        exact ⟨rfl, BW.out⟩
      | false =>
        go_wp2
        go_ret
        exact ⟨rfl, BW.out⟩
end Go.Proofs.YtjdaaecbnhcoaaaDoor
