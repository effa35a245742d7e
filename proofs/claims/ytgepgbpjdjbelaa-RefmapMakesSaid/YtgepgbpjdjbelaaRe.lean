/-
  A REGION that draws its order inside a round: one bit of a text is laid into its place: a lemma for each set of operations that are done.
-/
import Derived.Test.YtgepgbpjdjbelaaRc
set_option linter.unusedVariables false
set_option linter.unusedSimpArgs false
namespace Go.Proofs.Ytgepgbpjdjbelaa
open Go.RowKit

attribute [local go_sem] Oper.semAt_some
def ops13 : Array Oper := #[({ dst := some 43, op := Op.move (Operand.tmp 10), type := 84, pos := "bits.go:68", after := #[], guard := none } : Oper), ({ dst := some 44, op := Op.load 9 (Operand.tmp 1), type := 9, pos := "bits.go:68", after := #[], guard := none } : Oper), ({ dst := some 45, op := Op.move (Operand.tmp 9), type := 3, pos := "bits.go:68", after := #[], guard := none } : Oper), ({ dst := some 46, op := Op.binOp BinOp.quo 3 (Operand.tmp 45) (Operand.const (Value.int IntKind.i64 8)) 3, type := 3, pos := "bits.go:68", after := #[{ on := 2, ground := Ground.data }], guard := none } : Oper), ({ dst := some 47, op := Op.index 9 (Operand.tmp 44) (Operand.tmp 46), type := 5, pos := "bits.go:68", after := #[{ on := 1, ground := Ground.data }, { on := 3, ground := Ground.data }], guard := none } : Oper), ({ dst := some 48, op := Op.move (Operand.tmp 9), type := 3, pos := "bits.go:68", after := #[], guard := none } : Oper), ({ dst := some 49, op := Op.call { callee := Callee.value (Operand.func 32), args := #[Operand.tmp 48], argTypes := #[3] }, type := 5, pos := "bits.go:68", after := #[{ on := 5, ground := Ground.data }], guard := none } : Oper), ({ dst := some 50, op := Op.binOp BinOp.and 5 (Operand.tmp 47) (Operand.tmp 49) 5, type := 5, pos := "bits.go:68", after := #[{ on := 4, ground := Ground.data }, { on := 6, ground := Ground.data }], guard := none } : Oper), ({ dst := some 51, op := Op.binOp BinOp.neq 5 (Operand.tmp 50) (Operand.const (Value.int IntKind.u8 0)) 5, type := 4, pos := "bits.go:68", after := #[{ on := 7, ground := Ground.data }], guard := none } : Oper), ({ dst := some 52, op := Op.nilCheck (Operand.tmp 43), type := 0, pos := "bits.go:68", after := #[{ on := 0, ground := Ground.data }, { on := 0, ground := Ground.phase }, { on := 1, ground := Ground.phase }, { on := 2, ground := Ground.phase }, { on := 3, ground := Ground.phase }, { on := 4, ground := Ground.phase }, { on := 5, ground := Ground.phase }, { on := 6, ground := Ground.phase }, { on := 7, ground := Ground.phase }, { on := 8, ground := Ground.phase }], guard := none } : Oper), ({ dst := none, op := Op.store 4 (Operand.tmp 52) (Operand.tmp 51), type := 0, pos := "bits.go:68", after := #[{ on := 9, ground := Ground.data }, { on := 8, ground := Ground.data }, { on := 6, ground := Ground.chain }, { on := 0, ground := Ground.phase }, { on := 1, ground := Ground.phase }, { on := 2, ground := Ground.phase }, { on := 3, ground := Ground.phase }, { on := 4, ground := Ground.phase }, { on := 5, ground := Ground.phase }, { on := 6, ground := Ground.phase }, { on := 7, ground := Ground.phase }, { on := 8, ground := Ground.phase }], guard := none } : Oper)]
set_option maxRecDepth 1000000 in
set_option maxHeartbeats 6400000 in
theorem bit_in (l : Nat) (Q : Exit → Act → World → Prop) (W : World) (t : ByteArray) (sb qb qo m d c k : Nat) (bv old : Bool) (z0 z2 z3 z4 z5 z6 z7 z8 z11 z12 z13 z14 z15 z16 z17 z18 z19 z20 z21 z22 z23 z24 z25 z26 z27 z28 z29 z30 z31 z32 z33 z34 z35 z36 z37 z38 z39 z40 z41 z42 z53 z54 z55 z56 z57 z58 z59 z60 z61 z62 z63 z64 : Value)
    (q0 : W.cell? ⟨sb, 0, none⟩ = some (.string t)) (q1 : W.cell? ⟨qb, qo, none⟩ = some (.bool old)) (q2 : W.frozen? ⟨qb, qo, none⟩ = false) (hq8 : Int.tdiv (m : Int) 8 = (d : Int)) (hq9 : (m : Int) / 8 = (d : Int)) (wd : IntKind.i64.wrap (d : Int) = (d : Int))
    (hd : d < t.size) (hdi : (d : Int) < (t.size : Int)) (hc : (t[d]'hd).toNat = c) (hand : bits BinOp.and IntKind.u8 (c : Int) (k : Int) = ((c &&& k : Nat) : Int)) (hbv : (((c &&& k : Nat) : Int) != 0) = bv)
    (hM : ∀ W : World, Calls Try.prog 32 #[.int .i64 (m : Int)] W fun e w' => e = .returned (.int .u8 (k : Int)) ∧ w' = W)
    (hQ : Q .normal { tmps := #[z0, .pointer (some ⟨sb, 0, none⟩), z2, z3, z4, z5, z6, z7, z8, .int .i64 (m : Int), .pointer (some ⟨qb, qo, none⟩), z11, z12, z13, z14, z15, z16, z17, z18, z19, z20, z21, z22, z23, z24, z25, z26, z27, z28, z29, z30, z31, z32, z33, z34, z35, z36, z37, z38, z39, z40, z41, z42, .pointer (some ⟨qb, qo, none⟩), .string t, .int .i64 (m : Int), .int .i64 (d : Int), .int .u8 (c : Int), .int .i64 (m : Int), .int .u8 (k : Int), .int .u8 ((c &&& k : Nat) : Int), .bool bv, .pointer (some ⟨qb, qo, none⟩), z53, z54, z55, z56, z57, z58, z59, z60, z61, z62, z63, z64], defers := [] } (W.drew.setCell ⟨qb, qo, none⟩ (.bool bv))) :
    wpAnyIn (Fence.wide.inRound l) 6 Try.prog .any ops13 Q 11 (Array.replicate 11 false) { tmps := #[z0, .pointer (some ⟨sb, 0, none⟩), z2, z3, z4, z5, z6, z7, z8, .int .i64 (m : Int), .pointer (some ⟨qb, qo, none⟩), z11, z12, z13, z14, z15, z16, z17, z18, z19, z20, z21, z22, z23, z24, z25, z26, z27, z28, z29, z30, z31, z32, z33, z34, z35, z36, z37, z38, z39, z40, z41, z42, undef, undef, undef, undef, undef, undef, undef, undef, undef, undef, z53, z54, z55, z56, z57, z58, z59, z60, z61, z62, z63, z64], defers := [] } W.drew := by
  have HM := Lib.hid hM
  clear hM
  unfold ops13
  have g0_1_2_3_4_5_6_7_8_9_10 : wpAnyIn (Fence.wide.inRound l) 6 Try.prog .any ops13 Q 0 #[true, true, true, true, true, true, true, true, true, true, true] { tmps := #[z0, .pointer (some ⟨sb, 0, none⟩), z2, z3, z4, z5, z6, z7, z8, .int .i64 (m : Int), .pointer (some ⟨qb, qo, none⟩), z11, z12, z13, z14, z15, z16, z17, z18, z19, z20, z21, z22, z23, z24, z25, z26, z27, z28, z29, z30, z31, z32, z33, z34, z35, z36, z37, z38, z39, z40, z41, z42, .pointer (some ⟨qb, qo, none⟩), .string t, .int .i64 (m : Int), .int .i64 (d : Int), .int .u8 (c : Int), .int .i64 (m : Int), .int .u8 (k : Int), .int .u8 ((c &&& k : Nat) : Int), .bool bv, .pointer (some ⟨qb, qo, none⟩), z53, z54, z55, z56, z57, z58, z59, z60, z61, z62, z63, z64], defers := [] } (W.drew.setCell ⟨qb, qo, none⟩ (.bool bv)) := by
    exact wpAnyIn_done (by kernel_rfl) hQ _
  clear hQ
  have g0_1_2_3_4_5_6_7_8_9 : wpAnyIn (Fence.wide.inRound l) 6 Try.prog .any ops13 Q 1 #[true, true, true, true, true, true, true, true, true, true, false] { tmps := #[z0, .pointer (some ⟨sb, 0, none⟩), z2, z3, z4, z5, z6, z7, z8, .int .i64 (m : Int), .pointer (some ⟨qb, qo, none⟩), z11, z12, z13, z14, z15, z16, z17, z18, z19, z20, z21, z22, z23, z24, z25, z26, z27, z28, z29, z30, z31, z32, z33, z34, z35, z36, z37, z38, z39, z40, z41, z42, .pointer (some ⟨qb, qo, none⟩), .string t, .int .i64 (m : Int), .int .i64 (d : Int), .int .u8 (c : Int), .int .i64 (m : Int), .int .u8 (k : Int), .int .u8 ((c &&& k : Nat) : Int), .bool bv, .pointer (some ⟨qb, qo, none⟩), z53, z54, z55, z56, z57, z58, z59, z60, z61, z62, z63, z64], defers := [] } W.drew := by
    unfold ops13
    refine wpAnyIn_ready (rs := [10]) (by kernel_rfl) (by simp) ?_
    refine (AllReadyIn.cons rfl (fun K hK => ?_) AllReadyIn.nil)
    · have HK := Lib.hid (hK _ _ g0_1_2_3_4_5_6_7_8_9_10); clear hK; clear g0_1_2_3_4_5_6_7_8_9_10; go_simp; exact HK.out
  clear g0_1_2_3_4_5_6_7_8_9_10
  have g0_1_2_3_4_5_6_7_8 : wpAnyIn (Fence.wide.inRound l) 6 Try.prog .any ops13 Q 2 #[true, true, true, true, true, true, true, true, true, false, false] { tmps := #[z0, .pointer (some ⟨sb, 0, none⟩), z2, z3, z4, z5, z6, z7, z8, .int .i64 (m : Int), .pointer (some ⟨qb, qo, none⟩), z11, z12, z13, z14, z15, z16, z17, z18, z19, z20, z21, z22, z23, z24, z25, z26, z27, z28, z29, z30, z31, z32, z33, z34, z35, z36, z37, z38, z39, z40, z41, z42, .pointer (some ⟨qb, qo, none⟩), .string t, .int .i64 (m : Int), .int .i64 (d : Int), .int .u8 (c : Int), .int .i64 (m : Int), .int .u8 (k : Int), .int .u8 ((c &&& k : Nat) : Int), .bool bv, undef, z53, z54, z55, z56, z57, z58, z59, z60, z61, z62, z63, z64], defers := [] } W.drew := by
    unfold ops13
    refine wpAnyIn_ready (rs := [9]) (by kernel_rfl) (by simp) ?_
    refine (AllReadyIn.cons rfl (fun K hK => ?_) AllReadyIn.nil)
    · have HK := Lib.hid (hK _ _ g0_1_2_3_4_5_6_7_8_9); clear hK; clear g0_1_2_3_4_5_6_7_8_9; go_simp; exact HK.out
  clear g0_1_2_3_4_5_6_7_8_9
  have g0_1_2_3_4_5_6_7 : wpAnyIn (Fence.wide.inRound l) 6 Try.prog .any ops13 Q 3 #[true, true, true, true, true, true, true, true, false, false, false] { tmps := #[z0, .pointer (some ⟨sb, 0, none⟩), z2, z3, z4, z5, z6, z7, z8, .int .i64 (m : Int), .pointer (some ⟨qb, qo, none⟩), z11, z12, z13, z14, z15, z16, z17, z18, z19, z20, z21, z22, z23, z24, z25, z26, z27, z28, z29, z30, z31, z32, z33, z34, z35, z36, z37, z38, z39, z40, z41, z42, .pointer (some ⟨qb, qo, none⟩), .string t, .int .i64 (m : Int), .int .i64 (d : Int), .int .u8 (c : Int), .int .i64 (m : Int), .int .u8 (k : Int), .int .u8 ((c &&& k : Nat) : Int), undef, undef, z53, z54, z55, z56, z57, z58, z59, z60, z61, z62, z63, z64], defers := [] } W.drew := by
    unfold ops13
    refine wpAnyIn_ready (rs := [8]) (by kernel_rfl) (by simp) ?_
    refine (AllReadyIn.cons rfl (fun K hK => ?_) AllReadyIn.nil)
    · have HK := Lib.hid (hK _ _ g0_1_2_3_4_5_6_7_8); clear hK; clear g0_1_2_3_4_5_6_7_8; go_simp; exact HK.out
  have g1_2_3_4_5_6_7_8 : wpAnyIn (Fence.wide.inRound l) 6 Try.prog .any ops13 Q 3 #[false, true, true, true, true, true, true, true, true, false, false] { tmps := #[z0, .pointer (some ⟨sb, 0, none⟩), z2, z3, z4, z5, z6, z7, z8, .int .i64 (m : Int), .pointer (some ⟨qb, qo, none⟩), z11, z12, z13, z14, z15, z16, z17, z18, z19, z20, z21, z22, z23, z24, z25, z26, z27, z28, z29, z30, z31, z32, z33, z34, z35, z36, z37, z38, z39, z40, z41, z42, undef, .string t, .int .i64 (m : Int), .int .i64 (d : Int), .int .u8 (c : Int), .int .i64 (m : Int), .int .u8 (k : Int), .int .u8 ((c &&& k : Nat) : Int), .bool bv, undef, z53, z54, z55, z56, z57, z58, z59, z60, z61, z62, z63, z64], defers := [] } W.drew := by
    unfold ops13
    refine wpAnyIn_ready (rs := [0]) (by kernel_rfl) (by simp) ?_
    refine (AllReadyIn.cons rfl (fun K hK => ?_) AllReadyIn.nil)
    · have HK := Lib.hid (hK _ _ g0_1_2_3_4_5_6_7_8); clear hK; clear g0_1_2_3_4_5_6_7_8 g0_1_2_3_4_5_6_7; go_simp; exact HK.out
  clear g0_1_2_3_4_5_6_7_8
  have g0_1_2_3_4_5_6 : wpAnyIn (Fence.wide.inRound l) 6 Try.prog .any ops13 Q 4 #[true, true, true, true, true, true, true, false, false, false, false] { tmps := #[z0, .pointer (some ⟨sb, 0, none⟩), z2, z3, z4, z5, z6, z7, z8, .int .i64 (m : Int), .pointer (some ⟨qb, qo, none⟩), z11, z12, z13, z14, z15, z16, z17, z18, z19, z20, z21, z22, z23, z24, z25, z26, z27, z28, z29, z30, z31, z32, z33, z34, z35, z36, z37, z38, z39, z40, z41, z42, .pointer (some ⟨qb, qo, none⟩), .string t, .int .i64 (m : Int), .int .i64 (d : Int), .int .u8 (c : Int), .int .i64 (m : Int), .int .u8 (k : Int), undef, undef, undef, z53, z54, z55, z56, z57, z58, z59, z60, z61, z62, z63, z64], defers := [] } W.drew := by
    unfold ops13
    refine wpAnyIn_ready (rs := [7]) (by kernel_rfl) (by simp) ?_
    refine (AllReadyIn.cons rfl (fun K hK => ?_) AllReadyIn.nil)
    · have HK := Lib.hid (hK _ _ g0_1_2_3_4_5_6_7); clear hK; clear g0_1_2_3_4_5_6_7 g1_2_3_4_5_6_7_8; go_simp; exact HK.out
  have g1_2_3_4_5_6_7 : wpAnyIn (Fence.wide.inRound l) 6 Try.prog .any ops13 Q 4 #[false, true, true, true, true, true, true, true, false, false, false] { tmps := #[z0, .pointer (some ⟨sb, 0, none⟩), z2, z3, z4, z5, z6, z7, z8, .int .i64 (m : Int), .pointer (some ⟨qb, qo, none⟩), z11, z12, z13, z14, z15, z16, z17, z18, z19, z20, z21, z22, z23, z24, z25, z26, z27, z28, z29, z30, z31, z32, z33, z34, z35, z36, z37, z38, z39, z40, z41, z42, undef, .string t, .int .i64 (m : Int), .int .i64 (d : Int), .int .u8 (c : Int), .int .i64 (m : Int), .int .u8 (k : Int), .int .u8 ((c &&& k : Nat) : Int), undef, undef, z53, z54, z55, z56, z57, z58, z59, z60, z61, z62, z63, z64], defers := [] } W.drew := by
    unfold ops13
    refine wpAnyIn_ready (rs := [0, 8]) (by kernel_rfl) (by simp) ?_
    refine (AllReadyIn.cons rfl (fun K hK => ?_) (AllReadyIn.cons rfl (fun K hK => ?_) AllReadyIn.nil))
    · have HK := Lib.hid (hK _ _ g0_1_2_3_4_5_6_7); clear hK; clear g0_1_2_3_4_5_6_7 g1_2_3_4_5_6_7_8 g0_1_2_3_4_5_6; go_simp; exact HK.out
    · have HK := Lib.hid (hK _ _ g1_2_3_4_5_6_7_8); clear hK; clear g0_1_2_3_4_5_6_7 g1_2_3_4_5_6_7_8 g0_1_2_3_4_5_6; go_simp; exact HK.out
  clear g0_1_2_3_4_5_6_7 g1_2_3_4_5_6_7_8
  have g0_1_2_3_4_5 : wpAnyIn (Fence.wide.inRound l) 6 Try.prog .any ops13 Q 5 #[true, true, true, true, true, true, false, false, false, false, false] { tmps := #[z0, .pointer (some ⟨sb, 0, none⟩), z2, z3, z4, z5, z6, z7, z8, .int .i64 (m : Int), .pointer (some ⟨qb, qo, none⟩), z11, z12, z13, z14, z15, z16, z17, z18, z19, z20, z21, z22, z23, z24, z25, z26, z27, z28, z29, z30, z31, z32, z33, z34, z35, z36, z37, z38, z39, z40, z41, z42, .pointer (some ⟨qb, qo, none⟩), .string t, .int .i64 (m : Int), .int .i64 (d : Int), .int .u8 (c : Int), .int .i64 (m : Int), undef, undef, undef, undef, z53, z54, z55, z56, z57, z58, z59, z60, z61, z62, z63, z64], defers := [] } W.drew := by
    unfold ops13
    refine wpAnyIn_ready (rs := [6]) (by kernel_rfl) (by simp) ?_
    refine (AllReadyIn.cons rfl (fun K hK => ?_) AllReadyIn.nil)
    · have HK := Lib.hid (hK _ _ g0_1_2_3_4_5_6); clear hK; clear g0_1_2_3_4_5_6 g1_2_3_4_5_6_7; go_simp; gi_wp2_with (refine ⟨trivial, ?_⟩; gi_at_call 32; refine (CallsIn.inRound l (callsIn_wide.2 (HM.out _))).mono ?_; rintro e w5 ⟨rfl, rfl⟩); exact HK.out
  have g0_1_2_3_5_6 : wpAnyIn (Fence.wide.inRound l) 6 Try.prog .any ops13 Q 5 #[true, true, true, true, false, true, true, false, false, false, false] { tmps := #[z0, .pointer (some ⟨sb, 0, none⟩), z2, z3, z4, z5, z6, z7, z8, .int .i64 (m : Int), .pointer (some ⟨qb, qo, none⟩), z11, z12, z13, z14, z15, z16, z17, z18, z19, z20, z21, z22, z23, z24, z25, z26, z27, z28, z29, z30, z31, z32, z33, z34, z35, z36, z37, z38, z39, z40, z41, z42, .pointer (some ⟨qb, qo, none⟩), .string t, .int .i64 (m : Int), .int .i64 (d : Int), undef, .int .i64 (m : Int), .int .u8 (k : Int), undef, undef, undef, z53, z54, z55, z56, z57, z58, z59, z60, z61, z62, z63, z64], defers := [] } W.drew := by
    unfold ops13
    refine wpAnyIn_ready (rs := [4]) (by kernel_rfl) (by simp) ?_
    refine (AllReadyIn.cons rfl (fun K hK => ?_) AllReadyIn.nil)
    · have HK := Lib.hid (hK _ _ g0_1_2_3_4_5_6); clear hK; clear g0_1_2_3_4_5_6 g1_2_3_4_5_6_7 g0_1_2_3_4_5; go_simp; exact HK.out
  have g1_2_3_4_5_6 : wpAnyIn (Fence.wide.inRound l) 6 Try.prog .any ops13 Q 5 #[false, true, true, true, true, true, true, false, false, false, false] { tmps := #[z0, .pointer (some ⟨sb, 0, none⟩), z2, z3, z4, z5, z6, z7, z8, .int .i64 (m : Int), .pointer (some ⟨qb, qo, none⟩), z11, z12, z13, z14, z15, z16, z17, z18, z19, z20, z21, z22, z23, z24, z25, z26, z27, z28, z29, z30, z31, z32, z33, z34, z35, z36, z37, z38, z39, z40, z41, z42, undef, .string t, .int .i64 (m : Int), .int .i64 (d : Int), .int .u8 (c : Int), .int .i64 (m : Int), .int .u8 (k : Int), undef, undef, undef, z53, z54, z55, z56, z57, z58, z59, z60, z61, z62, z63, z64], defers := [] } W.drew := by
    unfold ops13
    refine wpAnyIn_ready (rs := [0, 7]) (by kernel_rfl) (by simp) ?_
    refine (AllReadyIn.cons rfl (fun K hK => ?_) (AllReadyIn.cons rfl (fun K hK => ?_) AllReadyIn.nil))
    · have HK := Lib.hid (hK _ _ g0_1_2_3_4_5_6); clear hK; clear g0_1_2_3_4_5_6 g1_2_3_4_5_6_7 g0_1_2_3_4_5 g0_1_2_3_5_6; go_simp; exact HK.out
    · have HK := Lib.hid (hK _ _ g1_2_3_4_5_6_7); clear hK; clear g0_1_2_3_4_5_6 g1_2_3_4_5_6_7 g0_1_2_3_4_5 g0_1_2_3_5_6; go_simp; exact HK.out
  clear g0_1_2_3_4_5_6 g1_2_3_4_5_6_7
  have g0_1_2_3_4 : wpAnyIn (Fence.wide.inRound l) 6 Try.prog .any ops13 Q 6 #[true, true, true, true, true, false, false, false, false, false, false] { tmps := #[z0, .pointer (some ⟨sb, 0, none⟩), z2, z3, z4, z5, z6, z7, z8, .int .i64 (m : Int), .pointer (some ⟨qb, qo, none⟩), z11, z12, z13, z14, z15, z16, z17, z18, z19, z20, z21, z22, z23, z24, z25, z26, z27, z28, z29, z30, z31, z32, z33, z34, z35, z36, z37, z38, z39, z40, z41, z42, .pointer (some ⟨qb, qo, none⟩), .string t, .int .i64 (m : Int), .int .i64 (d : Int), .int .u8 (c : Int), undef, undef, undef, undef, undef, z53, z54, z55, z56, z57, z58, z59, z60, z61, z62, z63, z64], defers := [] } W.drew := by
    unfold ops13
    refine wpAnyIn_ready (rs := [5]) (by kernel_rfl) (by simp) ?_
    refine (AllReadyIn.cons rfl (fun K hK => ?_) AllReadyIn.nil)
    · have HK := Lib.hid (hK _ _ g0_1_2_3_4_5); clear hK; clear g0_1_2_3_4_5 g0_1_2_3_5_6 g1_2_3_4_5_6; go_simp; exact HK.out
  have g0_1_2_3_5 : wpAnyIn (Fence.wide.inRound l) 6 Try.prog .any ops13 Q 6 #[true, true, true, true, false, true, false, false, false, false, false] { tmps := #[z0, .pointer (some ⟨sb, 0, none⟩), z2, z3, z4, z5, z6, z7, z8, .int .i64 (m : Int), .pointer (some ⟨qb, qo, none⟩), z11, z12, z13, z14, z15, z16, z17, z18, z19, z20, z21, z22, z23, z24, z25, z26, z27, z28, z29, z30, z31, z32, z33, z34, z35, z36, z37, z38, z39, z40, z41, z42, .pointer (some ⟨qb, qo, none⟩), .string t, .int .i64 (m : Int), .int .i64 (d : Int), undef, .int .i64 (m : Int), undef, undef, undef, undef, z53, z54, z55, z56, z57, z58, z59, z60, z61, z62, z63, z64], defers := [] } W.drew := by
    unfold ops13
    refine wpAnyIn_ready (rs := [4, 6]) (by kernel_rfl) (by simp) ?_
    refine (AllReadyIn.cons rfl (fun K hK => ?_) (AllReadyIn.cons rfl (fun K hK => ?_) AllReadyIn.nil))
    · have HK := Lib.hid (hK _ _ g0_1_2_3_4_5); clear hK; clear g0_1_2_3_4_5 g0_1_2_3_5_6 g1_2_3_4_5_6 g0_1_2_3_4; go_simp; exact HK.out
    · have HK := Lib.hid (hK _ _ g0_1_2_3_5_6); clear hK; clear g0_1_2_3_4_5 g0_1_2_3_5_6 g1_2_3_4_5_6 g0_1_2_3_4; go_simp; gi_wp2_with (refine ⟨trivial, ?_⟩; gi_at_call 32; refine (CallsIn.inRound l (callsIn_wide.2 (HM.out _))).mono ?_; rintro e w5 ⟨rfl, rfl⟩); exact HK.out
  have g0_1_2_5_6 : wpAnyIn (Fence.wide.inRound l) 6 Try.prog .any ops13 Q 6 #[true, true, true, false, false, true, true, false, false, false, false] { tmps := #[z0, .pointer (some ⟨sb, 0, none⟩), z2, z3, z4, z5, z6, z7, z8, .int .i64 (m : Int), .pointer (some ⟨qb, qo, none⟩), z11, z12, z13, z14, z15, z16, z17, z18, z19, z20, z21, z22, z23, z24, z25, z26, z27, z28, z29, z30, z31, z32, z33, z34, z35, z36, z37, z38, z39, z40, z41, z42, .pointer (some ⟨qb, qo, none⟩), .string t, .int .i64 (m : Int), undef, undef, .int .i64 (m : Int), .int .u8 (k : Int), undef, undef, undef, z53, z54, z55, z56, z57, z58, z59, z60, z61, z62, z63, z64], defers := [] } W.drew := by
    unfold ops13
    refine wpAnyIn_ready (rs := [3]) (by kernel_rfl) (by simp) ?_
    refine (AllReadyIn.cons rfl (fun K hK => ?_) AllReadyIn.nil)
    · have HK := Lib.hid (hK _ _ g0_1_2_3_5_6); clear hK; clear g0_1_2_3_4_5 g0_1_2_3_5_6 g1_2_3_4_5_6 g0_1_2_3_4 g0_1_2_3_5; go_simp; exact HK.out
  have g0_2_3_5_6 : wpAnyIn (Fence.wide.inRound l) 6 Try.prog .any ops13 Q 6 #[true, false, true, true, false, true, true, false, false, false, false] { tmps := #[z0, .pointer (some ⟨sb, 0, none⟩), z2, z3, z4, z5, z6, z7, z8, .int .i64 (m : Int), .pointer (some ⟨qb, qo, none⟩), z11, z12, z13, z14, z15, z16, z17, z18, z19, z20, z21, z22, z23, z24, z25, z26, z27, z28, z29, z30, z31, z32, z33, z34, z35, z36, z37, z38, z39, z40, z41, z42, .pointer (some ⟨qb, qo, none⟩), undef, .int .i64 (m : Int), .int .i64 (d : Int), undef, .int .i64 (m : Int), .int .u8 (k : Int), undef, undef, undef, z53, z54, z55, z56, z57, z58, z59, z60, z61, z62, z63, z64], defers := [] } W.drew := by
    unfold ops13
    refine wpAnyIn_ready (rs := [1]) (by kernel_rfl) (by simp) ?_
    refine (AllReadyIn.cons rfl (fun K hK => ?_) AllReadyIn.nil)
    · have HK := Lib.hid (hK _ _ g0_1_2_3_5_6); clear hK; clear g0_1_2_3_4_5 g0_1_2_3_5_6 g1_2_3_4_5_6 g0_1_2_3_4 g0_1_2_3_5 g0_1_2_5_6; go_simp; exact HK.out
  have g1_2_3_4_5 : wpAnyIn (Fence.wide.inRound l) 6 Try.prog .any ops13 Q 6 #[false, true, true, true, true, true, false, false, false, false, false] { tmps := #[z0, .pointer (some ⟨sb, 0, none⟩), z2, z3, z4, z5, z6, z7, z8, .int .i64 (m : Int), .pointer (some ⟨qb, qo, none⟩), z11, z12, z13, z14, z15, z16, z17, z18, z19, z20, z21, z22, z23, z24, z25, z26, z27, z28, z29, z30, z31, z32, z33, z34, z35, z36, z37, z38, z39, z40, z41, z42, undef, .string t, .int .i64 (m : Int), .int .i64 (d : Int), .int .u8 (c : Int), .int .i64 (m : Int), undef, undef, undef, undef, z53, z54, z55, z56, z57, z58, z59, z60, z61, z62, z63, z64], defers := [] } W.drew := by
    unfold ops13
    refine wpAnyIn_ready (rs := [0, 6]) (by kernel_rfl) (by simp) ?_
    refine (AllReadyIn.cons rfl (fun K hK => ?_) (AllReadyIn.cons rfl (fun K hK => ?_) AllReadyIn.nil))
    · have HK := Lib.hid (hK _ _ g0_1_2_3_4_5); clear hK; clear g0_1_2_3_4_5 g0_1_2_3_5_6 g1_2_3_4_5_6 g0_1_2_3_4 g0_1_2_3_5 g0_1_2_5_6 g0_2_3_5_6; go_simp; exact HK.out
    · have HK := Lib.hid (hK _ _ g1_2_3_4_5_6); clear hK; clear g0_1_2_3_4_5 g0_1_2_3_5_6 g1_2_3_4_5_6 g0_1_2_3_4 g0_1_2_3_5 g0_1_2_5_6 g0_2_3_5_6; go_simp; gi_wp2_with (refine ⟨trivial, ?_⟩; gi_at_call 32; refine (CallsIn.inRound l (callsIn_wide.2 (HM.out _))).mono ?_; rintro e w5 ⟨rfl, rfl⟩); exact HK.out
  have g1_2_3_5_6 : wpAnyIn (Fence.wide.inRound l) 6 Try.prog .any ops13 Q 6 #[false, true, true, true, false, true, true, false, false, false, false] { tmps := #[z0, .pointer (some ⟨sb, 0, none⟩), z2, z3, z4, z5, z6, z7, z8, .int .i64 (m : Int), .pointer (some ⟨qb, qo, none⟩), z11, z12, z13, z14, z15, z16, z17, z18, z19, z20, z21, z22, z23, z24, z25, z26, z27, z28, z29, z30, z31, z32, z33, z34, z35, z36, z37, z38, z39, z40, z41, z42, undef, .string t, .int .i64 (m : Int), .int .i64 (d : Int), undef, .int .i64 (m : Int), .int .u8 (k : Int), undef, undef, undef, z53, z54, z55, z56, z57, z58, z59, z60, z61, z62, z63, z64], defers := [] } W.drew := by
    unfold ops13
    refine wpAnyIn_ready (rs := [0, 4]) (by kernel_rfl) (by simp) ?_
    refine (AllReadyIn.cons rfl (fun K hK => ?_) (AllReadyIn.cons rfl (fun K hK => ?_) AllReadyIn.nil))
    · have HK := Lib.hid (hK _ _ g0_1_2_3_5_6); clear hK; clear g0_1_2_3_4_5 g0_1_2_3_5_6 g1_2_3_4_5_6 g0_1_2_3_4 g0_1_2_3_5 g0_1_2_5_6 g0_2_3_5_6 g1_2_3_4_5; go_simp; exact HK.out
    · have HK := Lib.hid (hK _ _ g1_2_3_4_5_6); clear hK; clear g0_1_2_3_4_5 g0_1_2_3_5_6 g1_2_3_4_5_6 g0_1_2_3_4 g0_1_2_3_5 g0_1_2_5_6 g0_2_3_5_6 g1_2_3_4_5; go_simp; exact HK.out
  clear g0_1_2_3_4_5 g0_1_2_3_5_6 g1_2_3_4_5_6
  have g0_1_2_3 : wpAnyIn (Fence.wide.inRound l) 6 Try.prog .any ops13 Q 7 #[true, true, true, true, false, false, false, false, false, false, false] { tmps := #[z0, .pointer (some ⟨sb, 0, none⟩), z2, z3, z4, z5, z6, z7, z8, .int .i64 (m : Int), .pointer (some ⟨qb, qo, none⟩), z11, z12, z13, z14, z15, z16, z17, z18, z19, z20, z21, z22, z23, z24, z25, z26, z27, z28, z29, z30, z31, z32, z33, z34, z35, z36, z37, z38, z39, z40, z41, z42, .pointer (some ⟨qb, qo, none⟩), .string t, .int .i64 (m : Int), .int .i64 (d : Int), undef, undef, undef, undef, undef, undef, z53, z54, z55, z56, z57, z58, z59, z60, z61, z62, z63, z64], defers := [] } W.drew := by
    unfold ops13
    refine wpAnyIn_ready (rs := [4, 5]) (by kernel_rfl) (by simp) ?_
    refine (AllReadyIn.cons rfl (fun K hK => ?_) (AllReadyIn.cons rfl (fun K hK => ?_) AllReadyIn.nil))
    · have HK := Lib.hid (hK _ _ g0_1_2_3_4); clear hK; clear g0_1_2_3_4 g0_1_2_3_5 g0_1_2_5_6 g0_2_3_5_6 g1_2_3_4_5 g1_2_3_5_6; go_simp; exact HK.out
    · have HK := Lib.hid (hK _ _ g0_1_2_3_5); clear hK; clear g0_1_2_3_4 g0_1_2_3_5 g0_1_2_5_6 g0_2_3_5_6 g1_2_3_4_5 g1_2_3_5_6; go_simp; exact HK.out
  have g0_1_2_5 : wpAnyIn (Fence.wide.inRound l) 6 Try.prog .any ops13 Q 7 #[true, true, true, false, false, true, false, false, false, false, false] { tmps := #[z0, .pointer (some ⟨sb, 0, none⟩), z2, z3, z4, z5, z6, z7, z8, .int .i64 (m : Int), .pointer (some ⟨qb, qo, none⟩), z11, z12, z13, z14, z15, z16, z17, z18, z19, z20, z21, z22, z23, z24, z25, z26, z27, z28, z29, z30, z31, z32, z33, z34, z35, z36, z37, z38, z39, z40, z41, z42, .pointer (some ⟨qb, qo, none⟩), .string t, .int .i64 (m : Int), undef, undef, .int .i64 (m : Int), undef, undef, undef, undef, z53, z54, z55, z56, z57, z58, z59, z60, z61, z62, z63, z64], defers := [] } W.drew := by
    unfold ops13
    refine wpAnyIn_ready (rs := [3, 6]) (by kernel_rfl) (by simp) ?_
    refine (AllReadyIn.cons rfl (fun K hK => ?_) (AllReadyIn.cons rfl (fun K hK => ?_) AllReadyIn.nil))
    · have HK := Lib.hid (hK _ _ g0_1_2_3_5); clear hK; clear g0_1_2_3_4 g0_1_2_3_5 g0_1_2_5_6 g0_2_3_5_6 g1_2_3_4_5 g1_2_3_5_6 g0_1_2_3; go_simp; exact HK.out
    · have HK := Lib.hid (hK _ _ g0_1_2_5_6); clear hK; clear g0_1_2_3_4 g0_1_2_3_5 g0_1_2_5_6 g0_2_3_5_6 g1_2_3_4_5 g1_2_3_5_6 g0_1_2_3; go_simp; gi_wp2_with (refine ⟨trivial, ?_⟩; gi_at_call 32; refine (CallsIn.inRound l (callsIn_wide.2 (HM.out _))).mono ?_; rintro e w5 ⟨rfl, rfl⟩); exact HK.out
  have g0_1_5_6 : wpAnyIn (Fence.wide.inRound l) 6 Try.prog .any ops13 Q 7 #[true, true, false, false, false, true, true, false, false, false, false] { tmps := #[z0, .pointer (some ⟨sb, 0, none⟩), z2, z3, z4, z5, z6, z7, z8, .int .i64 (m : Int), .pointer (some ⟨qb, qo, none⟩), z11, z12, z13, z14, z15, z16, z17, z18, z19, z20, z21, z22, z23, z24, z25, z26, z27, z28, z29, z30, z31, z32, z33, z34, z35, z36, z37, z38, z39, z40, z41, z42, .pointer (some ⟨qb, qo, none⟩), .string t, undef, undef, undef, .int .i64 (m : Int), .int .u8 (k : Int), undef, undef, undef, z53, z54, z55, z56, z57, z58, z59, z60, z61, z62, z63, z64], defers := [] } W.drew := by
    unfold ops13
    refine wpAnyIn_ready (rs := [2]) (by kernel_rfl) (by simp) ?_
    refine (AllReadyIn.cons rfl (fun K hK => ?_) AllReadyIn.nil)
    · have HK := Lib.hid (hK _ _ g0_1_2_5_6); clear hK; clear g0_1_2_3_4 g0_1_2_3_5 g0_1_2_5_6 g0_2_3_5_6 g1_2_3_4_5 g1_2_3_5_6 g0_1_2_3 g0_1_2_5; go_simp; exact HK.out
  have g0_2_3_5 : wpAnyIn (Fence.wide.inRound l) 6 Try.prog .any ops13 Q 7 #[true, false, true, true, false, true, false, false, false, false, false] { tmps := #[z0, .pointer (some ⟨sb, 0, none⟩), z2, z3, z4, z5, z6, z7, z8, .int .i64 (m : Int), .pointer (some ⟨qb, qo, none⟩), z11, z12, z13, z14, z15, z16, z17, z18, z19, z20, z21, z22, z23, z24, z25, z26, z27, z28, z29, z30, z31, z32, z33, z34, z35, z36, z37, z38, z39, z40, z41, z42, .pointer (some ⟨qb, qo, none⟩), undef, .int .i64 (m : Int), .int .i64 (d : Int), undef, .int .i64 (m : Int), undef, undef, undef, undef, z53, z54, z55, z56, z57, z58, z59, z60, z61, z62, z63, z64], defers := [] } W.drew := by
    unfold ops13
    refine wpAnyIn_ready (rs := [1, 6]) (by kernel_rfl) (by simp) ?_
    refine (AllReadyIn.cons rfl (fun K hK => ?_) (AllReadyIn.cons rfl (fun K hK => ?_) AllReadyIn.nil))
    · have HK := Lib.hid (hK _ _ g0_1_2_3_5); clear hK; clear g0_1_2_3_4 g0_1_2_3_5 g0_1_2_5_6 g0_2_3_5_6 g1_2_3_4_5 g1_2_3_5_6 g0_1_2_3 g0_1_2_5 g0_1_5_6; go_simp; exact HK.out
    · have HK := Lib.hid (hK _ _ g0_2_3_5_6); clear hK; clear g0_1_2_3_4 g0_1_2_3_5 g0_1_2_5_6 g0_2_3_5_6 g1_2_3_4_5 g1_2_3_5_6 g0_1_2_3 g0_1_2_5 g0_1_5_6; go_simp; gi_wp2_with (refine ⟨trivial, ?_⟩; gi_at_call 32; refine (CallsIn.inRound l (callsIn_wide.2 (HM.out _))).mono ?_; rintro e w5 ⟨rfl, rfl⟩); exact HK.out
  have g0_2_5_6 : wpAnyIn (Fence.wide.inRound l) 6 Try.prog .any ops13 Q 7 #[true, false, true, false, false, true, true, false, false, false, false] { tmps := #[z0, .pointer (some ⟨sb, 0, none⟩), z2, z3, z4, z5, z6, z7, z8, .int .i64 (m : Int), .pointer (some ⟨qb, qo, none⟩), z11, z12, z13, z14, z15, z16, z17, z18, z19, z20, z21, z22, z23, z24, z25, z26, z27, z28, z29, z30, z31, z32, z33, z34, z35, z36, z37, z38, z39, z40, z41, z42, .pointer (some ⟨qb, qo, none⟩), undef, .int .i64 (m : Int), undef, undef, .int .i64 (m : Int), .int .u8 (k : Int), undef, undef, undef, z53, z54, z55, z56, z57, z58, z59, z60, z61, z62, z63, z64], defers := [] } W.drew := by
    unfold ops13
    refine wpAnyIn_ready (rs := [1, 3]) (by kernel_rfl) (by simp) ?_
    refine (AllReadyIn.cons rfl (fun K hK => ?_) (AllReadyIn.cons rfl (fun K hK => ?_) AllReadyIn.nil))
    · have HK := Lib.hid (hK _ _ g0_1_2_5_6); clear hK; clear g0_1_2_3_4 g0_1_2_3_5 g0_1_2_5_6 g0_2_3_5_6 g1_2_3_4_5 g1_2_3_5_6 g0_1_2_3 g0_1_2_5 g0_1_5_6 g0_2_3_5; go_simp; exact HK.out
    · have HK := Lib.hid (hK _ _ g0_2_3_5_6); clear hK; clear g0_1_2_3_4 g0_1_2_3_5 g0_1_2_5_6 g0_2_3_5_6 g1_2_3_4_5 g1_2_3_5_6 g0_1_2_3 g0_1_2_5 g0_1_5_6 g0_2_3_5; go_simp; exact HK.out
  have g1_2_3_4 : wpAnyIn (Fence.wide.inRound l) 6 Try.prog .any ops13 Q 7 #[false, true, true, true, true, false, false, false, false, false, false] { tmps := #[z0, .pointer (some ⟨sb, 0, none⟩), z2, z3, z4, z5, z6, z7, z8, .int .i64 (m : Int), .pointer (some ⟨qb, qo, none⟩), z11, z12, z13, z14, z15, z16, z17, z18, z19, z20, z21, z22, z23, z24, z25, z26, z27, z28, z29, z30, z31, z32, z33, z34, z35, z36, z37, z38, z39, z40, z41, z42, undef, .string t, .int .i64 (m : Int), .int .i64 (d : Int), .int .u8 (c : Int), undef, undef, undef, undef, undef, z53, z54, z55, z56, z57, z58, z59, z60, z61, z62, z63, z64], defers := [] } W.drew := by
    unfold ops13
    refine wpAnyIn_ready (rs := [0, 5]) (by kernel_rfl) (by simp) ?_
    refine (AllReadyIn.cons rfl (fun K hK => ?_) (AllReadyIn.cons rfl (fun K hK => ?_) AllReadyIn.nil))
    · have HK := Lib.hid (hK _ _ g0_1_2_3_4); clear hK; clear g0_1_2_3_4 g0_1_2_3_5 g0_1_2_5_6 g0_2_3_5_6 g1_2_3_4_5 g1_2_3_5_6 g0_1_2_3 g0_1_2_5 g0_1_5_6 g0_2_3_5 g0_2_5_6; go_simp; exact HK.out
    · have HK := Lib.hid (hK _ _ g1_2_3_4_5); clear hK; clear g0_1_2_3_4 g0_1_2_3_5 g0_1_2_5_6 g0_2_3_5_6 g1_2_3_4_5 g1_2_3_5_6 g0_1_2_3 g0_1_2_5 g0_1_5_6 g0_2_3_5 g0_2_5_6; go_simp; exact HK.out
  have g1_2_3_5 : wpAnyIn (Fence.wide.inRound l) 6 Try.prog .any ops13 Q 7 #[false, true, true, true, false, true, false, false, false, false, false] { tmps := #[z0, .pointer (some ⟨sb, 0, none⟩), z2, z3, z4, z5, z6, z7, z8, .int .i64 (m : Int), .pointer (some ⟨qb, qo, none⟩), z11, z12, z13, z14, z15, z16, z17, z18, z19, z20, z21, z22, z23, z24, z25, z26, z27, z28, z29, z30, z31, z32, z33, z34, z35, z36, z37, z38, z39, z40, z41, z42, undef, .string t, .int .i64 (m : Int), .int .i64 (d : Int), undef, .int .i64 (m : Int), undef, undef, undef, undef, z53, z54, z55, z56, z57, z58, z59, z60, z61, z62, z63, z64], defers := [] } W.drew := by
    unfold ops13
    refine wpAnyIn_ready (rs := [0, 4, 6]) (by kernel_rfl) (by simp) ?_
    refine (AllReadyIn.cons rfl (fun K hK => ?_) (AllReadyIn.cons rfl (fun K hK => ?_) (AllReadyIn.cons rfl (fun K hK => ?_) AllReadyIn.nil)))
    · have HK := Lib.hid (hK _ _ g0_1_2_3_5); clear hK; clear g0_1_2_3_4 g0_1_2_3_5 g0_1_2_5_6 g0_2_3_5_6 g1_2_3_4_5 g1_2_3_5_6 g0_1_2_3 g0_1_2_5 g0_1_5_6 g0_2_3_5 g0_2_5_6 g1_2_3_4; go_simp; exact HK.out
    · have HK := Lib.hid (hK _ _ g1_2_3_4_5); clear hK; clear g0_1_2_3_4 g0_1_2_3_5 g0_1_2_5_6 g0_2_3_5_6 g1_2_3_4_5 g1_2_3_5_6 g0_1_2_3 g0_1_2_5 g0_1_5_6 g0_2_3_5 g0_2_5_6 g1_2_3_4; go_simp; exact HK.out
    · have HK := Lib.hid (hK _ _ g1_2_3_5_6); clear hK; clear g0_1_2_3_4 g0_1_2_3_5 g0_1_2_5_6 g0_2_3_5_6 g1_2_3_4_5 g1_2_3_5_6 g0_1_2_3 g0_1_2_5 g0_1_5_6 g0_2_3_5 g0_2_5_6 g1_2_3_4; go_simp; gi_wp2_with (refine ⟨trivial, ?_⟩; gi_at_call 32; refine (CallsIn.inRound l (callsIn_wide.2 (HM.out _))).mono ?_; rintro e w5 ⟨rfl, rfl⟩); exact HK.out
  have g1_2_5_6 : wpAnyIn (Fence.wide.inRound l) 6 Try.prog .any ops13 Q 7 #[false, true, true, false, false, true, true, false, false, false, false] { tmps := #[z0, .pointer (some ⟨sb, 0, none⟩), z2, z3, z4, z5, z6, z7, z8, .int .i64 (m : Int), .pointer (some ⟨qb, qo, none⟩), z11, z12, z13, z14, z15, z16, z17, z18, z19, z20, z21, z22, z23, z24, z25, z26, z27, z28, z29, z30, z31, z32, z33, z34, z35, z36, z37, z38, z39, z40, z41, z42, undef, .string t, .int .i64 (m : Int), undef, undef, .int .i64 (m : Int), .int .u8 (k : Int), undef, undef, undef, z53, z54, z55, z56, z57, z58, z59, z60, z61, z62, z63, z64], defers := [] } W.drew := by
    unfold ops13
    refine wpAnyIn_ready (rs := [0, 3]) (by kernel_rfl) (by simp) ?_
    refine (AllReadyIn.cons rfl (fun K hK => ?_) (AllReadyIn.cons rfl (fun K hK => ?_) AllReadyIn.nil))
    · have HK := Lib.hid (hK _ _ g0_1_2_5_6); clear hK; clear g0_1_2_3_4 g0_1_2_3_5 g0_1_2_5_6 g0_2_3_5_6 g1_2_3_4_5 g1_2_3_5_6 g0_1_2_3 g0_1_2_5 g0_1_5_6 g0_2_3_5 g0_2_5_6 g1_2_3_4 g1_2_3_5; go_simp; exact HK.out
    · have HK := Lib.hid (hK _ _ g1_2_3_5_6); clear hK; clear g0_1_2_3_4 g0_1_2_3_5 g0_1_2_5_6 g0_2_3_5_6 g1_2_3_4_5 g1_2_3_5_6 g0_1_2_3 g0_1_2_5 g0_1_5_6 g0_2_3_5 g0_2_5_6 g1_2_3_4 g1_2_3_5; go_simp; exact HK.out
  have g2_3_5_6 : wpAnyIn (Fence.wide.inRound l) 6 Try.prog .any ops13 Q 7 #[false, false, true, true, false, true, true, false, false, false, false] { tmps := #[z0, .pointer (some ⟨sb, 0, none⟩), z2, z3, z4, z5, z6, z7, z8, .int .i64 (m : Int), .pointer (some ⟨qb, qo, none⟩), z11, z12, z13, z14, z15, z16, z17, z18, z19, z20, z21, z22, z23, z24, z25, z26, z27, z28, z29, z30, z31, z32, z33, z34, z35, z36, z37, z38, z39, z40, z41, z42, undef, undef, .int .i64 (m : Int), .int .i64 (d : Int), undef, .int .i64 (m : Int), .int .u8 (k : Int), undef, undef, undef, z53, z54, z55, z56, z57, z58, z59, z60, z61, z62, z63, z64], defers := [] } W.drew := by
    unfold ops13
    refine wpAnyIn_ready (rs := [0, 1]) (by kernel_rfl) (by simp) ?_
    refine (AllReadyIn.cons rfl (fun K hK => ?_) (AllReadyIn.cons rfl (fun K hK => ?_) AllReadyIn.nil))
    · have HK := Lib.hid (hK _ _ g0_2_3_5_6); clear hK; clear g0_1_2_3_4 g0_1_2_3_5 g0_1_2_5_6 g0_2_3_5_6 g1_2_3_4_5 g1_2_3_5_6 g0_1_2_3 g0_1_2_5 g0_1_5_6 g0_2_3_5 g0_2_5_6 g1_2_3_4 g1_2_3_5 g1_2_5_6; go_simp; exact HK.out
    · have HK := Lib.hid (hK _ _ g1_2_3_5_6); clear hK; clear g0_1_2_3_4 g0_1_2_3_5 g0_1_2_5_6 g0_2_3_5_6 g1_2_3_4_5 g1_2_3_5_6 g0_1_2_3 g0_1_2_5 g0_1_5_6 g0_2_3_5 g0_2_5_6 g1_2_3_4 g1_2_3_5 g1_2_5_6; go_simp; exact HK.out
  clear g0_1_2_3_4 g0_1_2_3_5 g0_1_2_5_6 g0_2_3_5_6 g1_2_3_4_5 g1_2_3_5_6
  have g0_1_2 : wpAnyIn (Fence.wide.inRound l) 6 Try.prog .any ops13 Q 8 #[true, true, true, false, false, false, false, false, false, false, false] { tmps := #[z0, .pointer (some ⟨sb, 0, none⟩), z2, z3, z4, z5, z6, z7, z8, .int .i64 (m : Int), .pointer (some ⟨qb, qo, none⟩), z11, z12, z13, z14, z15, z16, z17, z18, z19, z20, z21, z22, z23, z24, z25, z26, z27, z28, z29, z30, z31, z32, z33, z34, z35, z36, z37, z38, z39, z40, z41, z42, .pointer (some ⟨qb, qo, none⟩), .string t, .int .i64 (m : Int), undef, undef, undef, undef, undef, undef, undef, z53, z54, z55, z56, z57, z58, z59, z60, z61, z62, z63, z64], defers := [] } W.drew := by
    unfold ops13
    refine wpAnyIn_ready (rs := [3, 5]) (by kernel_rfl) (by simp) ?_
    refine (AllReadyIn.cons rfl (fun K hK => ?_) (AllReadyIn.cons rfl (fun K hK => ?_) AllReadyIn.nil))
    · have HK := Lib.hid (hK _ _ g0_1_2_3); clear hK; clear g0_1_2_3 g0_1_2_5 g0_1_5_6 g0_2_3_5 g0_2_5_6 g1_2_3_4 g1_2_3_5 g1_2_5_6 g2_3_5_6; go_simp; exact HK.out
    · have HK := Lib.hid (hK _ _ g0_1_2_5); clear hK; clear g0_1_2_3 g0_1_2_5 g0_1_5_6 g0_2_3_5 g0_2_5_6 g1_2_3_4 g1_2_3_5 g1_2_5_6 g2_3_5_6; go_simp; exact HK.out
  have g0_1_5 : wpAnyIn (Fence.wide.inRound l) 6 Try.prog .any ops13 Q 8 #[true, true, false, false, false, true, false, false, false, false, false] { tmps := #[z0, .pointer (some ⟨sb, 0, none⟩), z2, z3, z4, z5, z6, z7, z8, .int .i64 (m : Int), .pointer (some ⟨qb, qo, none⟩), z11, z12, z13, z14, z15, z16, z17, z18, z19, z20, z21, z22, z23, z24, z25, z26, z27, z28, z29, z30, z31, z32, z33, z34, z35, z36, z37, z38, z39, z40, z41, z42, .pointer (some ⟨qb, qo, none⟩), .string t, undef, undef, undef, .int .i64 (m : Int), undef, undef, undef, undef, z53, z54, z55, z56, z57, z58, z59, z60, z61, z62, z63, z64], defers := [] } W.drew := by
    unfold ops13
    refine wpAnyIn_ready (rs := [2, 6]) (by kernel_rfl) (by simp) ?_
    refine (AllReadyIn.cons rfl (fun K hK => ?_) (AllReadyIn.cons rfl (fun K hK => ?_) AllReadyIn.nil))
    · have HK := Lib.hid (hK _ _ g0_1_2_5); clear hK; clear g0_1_2_3 g0_1_2_5 g0_1_5_6 g0_2_3_5 g0_2_5_6 g1_2_3_4 g1_2_3_5 g1_2_5_6 g2_3_5_6 g0_1_2; go_simp; exact HK.out
    · have HK := Lib.hid (hK _ _ g0_1_5_6); clear hK; clear g0_1_2_3 g0_1_2_5 g0_1_5_6 g0_2_3_5 g0_2_5_6 g1_2_3_4 g1_2_3_5 g1_2_5_6 g2_3_5_6 g0_1_2; go_simp; gi_wp2_with (refine ⟨trivial, ?_⟩; gi_at_call 32; refine (CallsIn.inRound l (callsIn_wide.2 (HM.out _))).mono ?_; rintro e w5 ⟨rfl, rfl⟩); exact HK.out
  have g0_2_3 : wpAnyIn (Fence.wide.inRound l) 6 Try.prog .any ops13 Q 8 #[true, false, true, true, false, false, false, false, false, false, false] { tmps := #[z0, .pointer (some ⟨sb, 0, none⟩), z2, z3, z4, z5, z6, z7, z8, .int .i64 (m : Int), .pointer (some ⟨qb, qo, none⟩), z11, z12, z13, z14, z15, z16, z17, z18, z19, z20, z21, z22, z23, z24, z25, z26, z27, z28, z29, z30, z31, z32, z33, z34, z35, z36, z37, z38, z39, z40, z41, z42, .pointer (some ⟨qb, qo, none⟩), undef, .int .i64 (m : Int), .int .i64 (d : Int), undef, undef, undef, undef, undef, undef, z53, z54, z55, z56, z57, z58, z59, z60, z61, z62, z63, z64], defers := [] } W.drew := by
    unfold ops13
    refine wpAnyIn_ready (rs := [1, 5]) (by kernel_rfl) (by simp) ?_
    refine (AllReadyIn.cons rfl (fun K hK => ?_) (AllReadyIn.cons rfl (fun K hK => ?_) AllReadyIn.nil))
    · have HK := Lib.hid (hK _ _ g0_1_2_3); clear hK; clear g0_1_2_3 g0_1_2_5 g0_1_5_6 g0_2_3_5 g0_2_5_6 g1_2_3_4 g1_2_3_5 g1_2_5_6 g2_3_5_6 g0_1_2 g0_1_5; go_simp; exact HK.out
    · have HK := Lib.hid (hK _ _ g0_2_3_5); clear hK; clear g0_1_2_3 g0_1_2_5 g0_1_5_6 g0_2_3_5 g0_2_5_6 g1_2_3_4 g1_2_3_5 g1_2_5_6 g2_3_5_6 g0_1_2 g0_1_5; go_simp; exact HK.out
  have g0_2_5 : wpAnyIn (Fence.wide.inRound l) 6 Try.prog .any ops13 Q 8 #[true, false, true, false, false, true, false, false, false, false, false] { tmps := #[z0, .pointer (some ⟨sb, 0, none⟩), z2, z3, z4, z5, z6, z7, z8, .int .i64 (m : Int), .pointer (some ⟨qb, qo, none⟩), z11, z12, z13, z14, z15, z16, z17, z18, z19, z20, z21, z22, z23, z24, z25, z26, z27, z28, z29, z30, z31, z32, z33, z34, z35, z36, z37, z38, z39, z40, z41, z42, .pointer (some ⟨qb, qo, none⟩), undef, .int .i64 (m : Int), undef, undef, .int .i64 (m : Int), undef, undef, undef, undef, z53, z54, z55, z56, z57, z58, z59, z60, z61, z62, z63, z64], defers := [] } W.drew := by
    unfold ops13
    refine wpAnyIn_ready (rs := [1, 3, 6]) (by kernel_rfl) (by simp) ?_
    refine (AllReadyIn.cons rfl (fun K hK => ?_) (AllReadyIn.cons rfl (fun K hK => ?_) (AllReadyIn.cons rfl (fun K hK => ?_) AllReadyIn.nil)))
    · have HK := Lib.hid (hK _ _ g0_1_2_5); clear hK; clear g0_1_2_3 g0_1_2_5 g0_1_5_6 g0_2_3_5 g0_2_5_6 g1_2_3_4 g1_2_3_5 g1_2_5_6 g2_3_5_6 g0_1_2 g0_1_5 g0_2_3; go_simp; exact HK.out
    · have HK := Lib.hid (hK _ _ g0_2_3_5); clear hK; clear g0_1_2_3 g0_1_2_5 g0_1_5_6 g0_2_3_5 g0_2_5_6 g1_2_3_4 g1_2_3_5 g1_2_5_6 g2_3_5_6 g0_1_2 g0_1_5 g0_2_3; go_simp; exact HK.out
    · have HK := Lib.hid (hK _ _ g0_2_5_6); clear hK; clear g0_1_2_3 g0_1_2_5 g0_1_5_6 g0_2_3_5 g0_2_5_6 g1_2_3_4 g1_2_3_5 g1_2_5_6 g2_3_5_6 g0_1_2 g0_1_5 g0_2_3; go_simp; gi_wp2_with (refine ⟨trivial, ?_⟩; gi_at_call 32; refine (CallsIn.inRound l (callsIn_wide.2 (HM.out _))).mono ?_; rintro e w5 ⟨rfl, rfl⟩); exact HK.out
  have g0_5_6 : wpAnyIn (Fence.wide.inRound l) 6 Try.prog .any ops13 Q 8 #[true, false, false, false, false, true, true, false, false, false, false] { tmps := #[z0, .pointer (some ⟨sb, 0, none⟩), z2, z3, z4, z5, z6, z7, z8, .int .i64 (m : Int), .pointer (some ⟨qb, qo, none⟩), z11, z12, z13, z14, z15, z16, z17, z18, z19, z20, z21, z22, z23, z24, z25, z26, z27, z28, z29, z30, z31, z32, z33, z34, z35, z36, z37, z38, z39, z40, z41, z42, .pointer (some ⟨qb, qo, none⟩), undef, undef, undef, undef, .int .i64 (m : Int), .int .u8 (k : Int), undef, undef, undef, z53, z54, z55, z56, z57, z58, z59, z60, z61, z62, z63, z64], defers := [] } W.drew := by
    unfold ops13
    refine wpAnyIn_ready (rs := [1, 2]) (by kernel_rfl) (by simp) ?_
    refine (AllReadyIn.cons rfl (fun K hK => ?_) (AllReadyIn.cons rfl (fun K hK => ?_) AllReadyIn.nil))
    · have HK := Lib.hid (hK _ _ g0_1_5_6); clear hK; clear g0_1_2_3 g0_1_2_5 g0_1_5_6 g0_2_3_5 g0_2_5_6 g1_2_3_4 g1_2_3_5 g1_2_5_6 g2_3_5_6 g0_1_2 g0_1_5 g0_2_3 g0_2_5; go_simp; exact HK.out
    · have HK := Lib.hid (hK _ _ g0_2_5_6); clear hK; clear g0_1_2_3 g0_1_2_5 g0_1_5_6 g0_2_3_5 g0_2_5_6 g1_2_3_4 g1_2_3_5 g1_2_5_6 g2_3_5_6 g0_1_2 g0_1_5 g0_2_3 g0_2_5; go_simp; exact HK.out
  have g1_2_3 : wpAnyIn (Fence.wide.inRound l) 6 Try.prog .any ops13 Q 8 #[false, true, true, true, false, false, false, false, false, false, false] { tmps := #[z0, .pointer (some ⟨sb, 0, none⟩), z2, z3, z4, z5, z6, z7, z8, .int .i64 (m : Int), .pointer (some ⟨qb, qo, none⟩), z11, z12, z13, z14, z15, z16, z17, z18, z19, z20, z21, z22, z23, z24, z25, z26, z27, z28, z29, z30, z31, z32, z33, z34, z35, z36, z37, z38, z39, z40, z41, z42, undef, .string t, .int .i64 (m : Int), .int .i64 (d : Int), undef, undef, undef, undef, undef, undef, z53, z54, z55, z56, z57, z58, z59, z60, z61, z62, z63, z64], defers := [] } W.drew := by
    unfold ops13
    refine wpAnyIn_ready (rs := [0, 4, 5]) (by kernel_rfl) (by simp) ?_
    refine (AllReadyIn.cons rfl (fun K hK => ?_) (AllReadyIn.cons rfl (fun K hK => ?_) (AllReadyIn.cons rfl (fun K hK => ?_) AllReadyIn.nil)))
    · have HK := Lib.hid (hK _ _ g0_1_2_3); clear hK; clear g0_1_2_3 g0_1_2_5 g0_1_5_6 g0_2_3_5 g0_2_5_6 g1_2_3_4 g1_2_3_5 g1_2_5_6 g2_3_5_6 g0_1_2 g0_1_5 g0_2_3 g0_2_5 g0_5_6; go_simp; exact HK.out
    · have HK := Lib.hid (hK _ _ g1_2_3_4); clear hK; clear g0_1_2_3 g0_1_2_5 g0_1_5_6 g0_2_3_5 g0_2_5_6 g1_2_3_4 g1_2_3_5 g1_2_5_6 g2_3_5_6 g0_1_2 g0_1_5 g0_2_3 g0_2_5 g0_5_6; go_simp; exact HK.out
    · have HK := Lib.hid (hK _ _ g1_2_3_5); clear hK; clear g0_1_2_3 g0_1_2_5 g0_1_5_6 g0_2_3_5 g0_2_5_6 g1_2_3_4 g1_2_3_5 g1_2_5_6 g2_3_5_6 g0_1_2 g0_1_5 g0_2_3 g0_2_5 g0_5_6; go_simp; exact HK.out
  have g1_2_5 : wpAnyIn (Fence.wide.inRound l) 6 Try.prog .any ops13 Q 8 #[false, true, true, false, false, true, false, false, false, false, false] { tmps := #[z0, .pointer (some ⟨sb, 0, none⟩), z2, z3, z4, z5, z6, z7, z8, .int .i64 (m : Int), .pointer (some ⟨qb, qo, none⟩), z11, z12, z13, z14, z15, z16, z17, z18, z19, z20, z21, z22, z23, z24, z25, z26, z27, z28, z29, z30, z31, z32, z33, z34, z35, z36, z37, z38, z39, z40, z41, z42, undef, .string t, .int .i64 (m : Int), undef, undef, .int .i64 (m : Int), undef, undef, undef, undef, z53, z54, z55, z56, z57, z58, z59, z60, z61, z62, z63, z64], defers := [] } W.drew := by
    unfold ops13
    refine wpAnyIn_ready (rs := [0, 3, 6]) (by kernel_rfl) (by simp) ?_
    refine (AllReadyIn.cons rfl (fun K hK => ?_) (AllReadyIn.cons rfl (fun K hK => ?_) (AllReadyIn.cons rfl (fun K hK => ?_) AllReadyIn.nil)))
    · have HK := Lib.hid (hK _ _ g0_1_2_5); clear hK; clear g0_1_2_3 g0_1_2_5 g0_1_5_6 g0_2_3_5 g0_2_5_6 g1_2_3_4 g1_2_3_5 g1_2_5_6 g2_3_5_6 g0_1_2 g0_1_5 g0_2_3 g0_2_5 g0_5_6 g1_2_3; go_simp; exact HK.out
    · have HK := Lib.hid (hK _ _ g1_2_3_5); clear hK; clear g0_1_2_3 g0_1_2_5 g0_1_5_6 g0_2_3_5 g0_2_5_6 g1_2_3_4 g1_2_3_5 g1_2_5_6 g2_3_5_6 g0_1_2 g0_1_5 g0_2_3 g0_2_5 g0_5_6 g1_2_3; go_simp; exact HK.out
    · have HK := Lib.hid (hK _ _ g1_2_5_6); clear hK; clear g0_1_2_3 g0_1_2_5 g0_1_5_6 g0_2_3_5 g0_2_5_6 g1_2_3_4 g1_2_3_5 g1_2_5_6 g2_3_5_6 g0_1_2 g0_1_5 g0_2_3 g0_2_5 g0_5_6 g1_2_3; go_simp; gi_wp2_with (refine ⟨trivial, ?_⟩; gi_at_call 32; refine (CallsIn.inRound l (callsIn_wide.2 (HM.out _))).mono ?_; rintro e w5 ⟨rfl, rfl⟩); exact HK.out
  have g1_5_6 : wpAnyIn (Fence.wide.inRound l) 6 Try.prog .any ops13 Q 8 #[false, true, false, false, false, true, true, false, false, false, false] { tmps := #[z0, .pointer (some ⟨sb, 0, none⟩), z2, z3, z4, z5, z6, z7, z8, .int .i64 (m : Int), .pointer (some ⟨qb, qo, none⟩), z11, z12, z13, z14, z15, z16, z17, z18, z19, z20, z21, z22, z23, z24, z25, z26, z27, z28, z29, z30, z31, z32, z33, z34, z35, z36, z37, z38, z39, z40, z41, z42, undef, .string t, undef, undef, undef, .int .i64 (m : Int), .int .u8 (k : Int), undef, undef, undef, z53, z54, z55, z56, z57, z58, z59, z60, z61, z62, z63, z64], defers := [] } W.drew := by
    unfold ops13
    refine wpAnyIn_ready (rs := [0, 2]) (by kernel_rfl) (by simp) ?_
    refine (AllReadyIn.cons rfl (fun K hK => ?_) (AllReadyIn.cons rfl (fun K hK => ?_) AllReadyIn.nil))
    · have HK := Lib.hid (hK _ _ g0_1_5_6); clear hK; clear g0_1_2_3 g0_1_2_5 g0_1_5_6 g0_2_3_5 g0_2_5_6 g1_2_3_4 g1_2_3_5 g1_2_5_6 g2_3_5_6 g0_1_2 g0_1_5 g0_2_3 g0_2_5 g0_5_6 g1_2_3 g1_2_5; go_simp; exact HK.out
    · have HK := Lib.hid (hK _ _ g1_2_5_6); clear hK; clear g0_1_2_3 g0_1_2_5 g0_1_5_6 g0_2_3_5 g0_2_5_6 g1_2_3_4 g1_2_3_5 g1_2_5_6 g2_3_5_6 g0_1_2 g0_1_5 g0_2_3 g0_2_5 g0_5_6 g1_2_3 g1_2_5; go_simp; exact HK.out
  have g2_3_5 : wpAnyIn (Fence.wide.inRound l) 6 Try.prog .any ops13 Q 8 #[false, false, true, true, false, true, false, false, false, false, false] { tmps := #[z0, .pointer (some ⟨sb, 0, none⟩), z2, z3, z4, z5, z6, z7, z8, .int .i64 (m : Int), .pointer (some ⟨qb, qo, none⟩), z11, z12, z13, z14, z15, z16, z17, z18, z19, z20, z21, z22, z23, z24, z25, z26, z27, z28, z29, z30, z31, z32, z33, z34, z35, z36, z37, z38, z39, z40, z41, z42, undef, undef, .int .i64 (m : Int), .int .i64 (d : Int), undef, .int .i64 (m : Int), undef, undef, undef, undef, z53, z54, z55, z56, z57, z58, z59, z60, z61, z62, z63, z64], defers := [] } W.drew := by
    unfold ops13
    refine wpAnyIn_ready (rs := [0, 1, 6]) (by kernel_rfl) (by simp) ?_
    refine (AllReadyIn.cons rfl (fun K hK => ?_) (AllReadyIn.cons rfl (fun K hK => ?_) (AllReadyIn.cons rfl (fun K hK => ?_) AllReadyIn.nil)))
    · have HK := Lib.hid (hK _ _ g0_2_3_5); clear hK; clear g0_1_2_3 g0_1_2_5 g0_1_5_6 g0_2_3_5 g0_2_5_6 g1_2_3_4 g1_2_3_5 g1_2_5_6 g2_3_5_6 g0_1_2 g0_1_5 g0_2_3 g0_2_5 g0_5_6 g1_2_3 g1_2_5 g1_5_6; go_simp; exact HK.out
    · have HK := Lib.hid (hK _ _ g1_2_3_5); clear hK; clear g0_1_2_3 g0_1_2_5 g0_1_5_6 g0_2_3_5 g0_2_5_6 g1_2_3_4 g1_2_3_5 g1_2_5_6 g2_3_5_6 g0_1_2 g0_1_5 g0_2_3 g0_2_5 g0_5_6 g1_2_3 g1_2_5 g1_5_6; go_simp; exact HK.out
    · have HK := Lib.hid (hK _ _ g2_3_5_6); clear hK; clear g0_1_2_3 g0_1_2_5 g0_1_5_6 g0_2_3_5 g0_2_5_6 g1_2_3_4 g1_2_3_5 g1_2_5_6 g2_3_5_6 g0_1_2 g0_1_5 g0_2_3 g0_2_5 g0_5_6 g1_2_3 g1_2_5 g1_5_6; go_simp; gi_wp2_with (refine ⟨trivial, ?_⟩; gi_at_call 32; refine (CallsIn.inRound l (callsIn_wide.2 (HM.out _))).mono ?_; rintro e w5 ⟨rfl, rfl⟩); exact HK.out
  have g2_5_6 : wpAnyIn (Fence.wide.inRound l) 6 Try.prog .any ops13 Q 8 #[false, false, true, false, false, true, true, false, false, false, false] { tmps := #[z0, .pointer (some ⟨sb, 0, none⟩), z2, z3, z4, z5, z6, z7, z8, .int .i64 (m : Int), .pointer (some ⟨qb, qo, none⟩), z11, z12, z13, z14, z15, z16, z17, z18, z19, z20, z21, z22, z23, z24, z25, z26, z27, z28, z29, z30, z31, z32, z33, z34, z35, z36, z37, z38, z39, z40, z41, z42, undef, undef, .int .i64 (m : Int), undef, undef, .int .i64 (m : Int), .int .u8 (k : Int), undef, undef, undef, z53, z54, z55, z56, z57, z58, z59, z60, z61, z62, z63, z64], defers := [] } W.drew := by
    unfold ops13
    refine wpAnyIn_ready (rs := [0, 1, 3]) (by kernel_rfl) (by simp) ?_
    refine (AllReadyIn.cons rfl (fun K hK => ?_) (AllReadyIn.cons rfl (fun K hK => ?_) (AllReadyIn.cons rfl (fun K hK => ?_) AllReadyIn.nil)))
    · have HK := Lib.hid (hK _ _ g0_2_5_6); clear hK; clear g0_1_2_3 g0_1_2_5 g0_1_5_6 g0_2_3_5 g0_2_5_6 g1_2_3_4 g1_2_3_5 g1_2_5_6 g2_3_5_6 g0_1_2 g0_1_5 g0_2_3 g0_2_5 g0_5_6 g1_2_3 g1_2_5 g1_5_6 g2_3_5; go_simp; exact HK.out
    · have HK := Lib.hid (hK _ _ g1_2_5_6); clear hK; clear g0_1_2_3 g0_1_2_5 g0_1_5_6 g0_2_3_5 g0_2_5_6 g1_2_3_4 g1_2_3_5 g1_2_5_6 g2_3_5_6 g0_1_2 g0_1_5 g0_2_3 g0_2_5 g0_5_6 g1_2_3 g1_2_5 g1_5_6 g2_3_5; go_simp; exact HK.out
    · have HK := Lib.hid (hK _ _ g2_3_5_6); clear hK; clear g0_1_2_3 g0_1_2_5 g0_1_5_6 g0_2_3_5 g0_2_5_6 g1_2_3_4 g1_2_3_5 g1_2_5_6 g2_3_5_6 g0_1_2 g0_1_5 g0_2_3 g0_2_5 g0_5_6 g1_2_3 g1_2_5 g1_5_6 g2_3_5; go_simp; exact HK.out
  clear g0_1_2_3 g0_1_2_5 g0_1_5_6 g0_2_3_5 g0_2_5_6 g1_2_3_4 g1_2_3_5 g1_2_5_6 g2_3_5_6
  have g0_1 : wpAnyIn (Fence.wide.inRound l) 6 Try.prog .any ops13 Q 9 #[true, true, false, false, false, false, false, false, false, false, false] { tmps := #[z0, .pointer (some ⟨sb, 0, none⟩), z2, z3, z4, z5, z6, z7, z8, .int .i64 (m : Int), .pointer (some ⟨qb, qo, none⟩), z11, z12, z13, z14, z15, z16, z17, z18, z19, z20, z21, z22, z23, z24, z25, z26, z27, z28, z29, z30, z31, z32, z33, z34, z35, z36, z37, z38, z39, z40, z41, z42, .pointer (some ⟨qb, qo, none⟩), .string t, undef, undef, undef, undef, undef, undef, undef, undef, z53, z54, z55, z56, z57, z58, z59, z60, z61, z62, z63, z64], defers := [] } W.drew := by
    unfold ops13
    refine wpAnyIn_ready (rs := [2, 5]) (by kernel_rfl) (by simp) ?_
    refine (AllReadyIn.cons rfl (fun K hK => ?_) (AllReadyIn.cons rfl (fun K hK => ?_) AllReadyIn.nil))
    · have HK := Lib.hid (hK _ _ g0_1_2); clear hK; clear g0_1_2 g0_1_5 g0_2_3 g0_2_5 g0_5_6 g1_2_3 g1_2_5 g1_5_6 g2_3_5 g2_5_6; go_simp; exact HK.out
    · have HK := Lib.hid (hK _ _ g0_1_5); clear hK; clear g0_1_2 g0_1_5 g0_2_3 g0_2_5 g0_5_6 g1_2_3 g1_2_5 g1_5_6 g2_3_5 g2_5_6; go_simp; exact HK.out
  have g0_2 : wpAnyIn (Fence.wide.inRound l) 6 Try.prog .any ops13 Q 9 #[true, false, true, false, false, false, false, false, false, false, false] { tmps := #[z0, .pointer (some ⟨sb, 0, none⟩), z2, z3, z4, z5, z6, z7, z8, .int .i64 (m : Int), .pointer (some ⟨qb, qo, none⟩), z11, z12, z13, z14, z15, z16, z17, z18, z19, z20, z21, z22, z23, z24, z25, z26, z27, z28, z29, z30, z31, z32, z33, z34, z35, z36, z37, z38, z39, z40, z41, z42, .pointer (some ⟨qb, qo, none⟩), undef, .int .i64 (m : Int), undef, undef, undef, undef, undef, undef, undef, z53, z54, z55, z56, z57, z58, z59, z60, z61, z62, z63, z64], defers := [] } W.drew := by
    unfold ops13
    refine wpAnyIn_ready (rs := [1, 3, 5]) (by kernel_rfl) (by simp) ?_
    refine (AllReadyIn.cons rfl (fun K hK => ?_) (AllReadyIn.cons rfl (fun K hK => ?_) (AllReadyIn.cons rfl (fun K hK => ?_) AllReadyIn.nil)))
    · have HK := Lib.hid (hK _ _ g0_1_2); clear hK; clear g0_1_2 g0_1_5 g0_2_3 g0_2_5 g0_5_6 g1_2_3 g1_2_5 g1_5_6 g2_3_5 g2_5_6 g0_1; go_simp; exact HK.out
    · have HK := Lib.hid (hK _ _ g0_2_3); clear hK; clear g0_1_2 g0_1_5 g0_2_3 g0_2_5 g0_5_6 g1_2_3 g1_2_5 g1_5_6 g2_3_5 g2_5_6 g0_1; go_simp; exact HK.out
    · have HK := Lib.hid (hK _ _ g0_2_5); clear hK; clear g0_1_2 g0_1_5 g0_2_3 g0_2_5 g0_5_6 g1_2_3 g1_2_5 g1_5_6 g2_3_5 g2_5_6 g0_1; go_simp; exact HK.out
  have g0_5 : wpAnyIn (Fence.wide.inRound l) 6 Try.prog .any ops13 Q 9 #[true, false, false, false, false, true, false, false, false, false, false] { tmps := #[z0, .pointer (some ⟨sb, 0, none⟩), z2, z3, z4, z5, z6, z7, z8, .int .i64 (m : Int), .pointer (some ⟨qb, qo, none⟩), z11, z12, z13, z14, z15, z16, z17, z18, z19, z20, z21, z22, z23, z24, z25, z26, z27, z28, z29, z30, z31, z32, z33, z34, z35, z36, z37, z38, z39, z40, z41, z42, .pointer (some ⟨qb, qo, none⟩), undef, undef, undef, undef, .int .i64 (m : Int), undef, undef, undef, undef, z53, z54, z55, z56, z57, z58, z59, z60, z61, z62, z63, z64], defers := [] } W.drew := by
    unfold ops13
    refine wpAnyIn_ready (rs := [1, 2, 6]) (by kernel_rfl) (by simp) ?_
    refine (AllReadyIn.cons rfl (fun K hK => ?_) (AllReadyIn.cons rfl (fun K hK => ?_) (AllReadyIn.cons rfl (fun K hK => ?_) AllReadyIn.nil)))
    · have HK := Lib.hid (hK _ _ g0_1_5); clear hK; clear g0_1_2 g0_1_5 g0_2_3 g0_2_5 g0_5_6 g1_2_3 g1_2_5 g1_5_6 g2_3_5 g2_5_6 g0_1 g0_2; go_simp; exact HK.out
    · have HK := Lib.hid (hK _ _ g0_2_5); clear hK; clear g0_1_2 g0_1_5 g0_2_3 g0_2_5 g0_5_6 g1_2_3 g1_2_5 g1_5_6 g2_3_5 g2_5_6 g0_1 g0_2; go_simp; exact HK.out
    · have HK := Lib.hid (hK _ _ g0_5_6); clear hK; clear g0_1_2 g0_1_5 g0_2_3 g0_2_5 g0_5_6 g1_2_3 g1_2_5 g1_5_6 g2_3_5 g2_5_6 g0_1 g0_2; go_simp; gi_wp2_with (refine ⟨trivial, ?_⟩; gi_at_call 32; refine (CallsIn.inRound l (callsIn_wide.2 (HM.out _))).mono ?_; rintro e w5 ⟨rfl, rfl⟩); exact HK.out
  have g1_2 : wpAnyIn (Fence.wide.inRound l) 6 Try.prog .any ops13 Q 9 #[false, true, true, false, false, false, false, false, false, false, false] { tmps := #[z0, .pointer (some ⟨sb, 0, none⟩), z2, z3, z4, z5, z6, z7, z8, .int .i64 (m : Int), .pointer (some ⟨qb, qo, none⟩), z11, z12, z13, z14, z15, z16, z17, z18, z19, z20, z21, z22, z23, z24, z25, z26, z27, z28, z29, z30, z31, z32, z33, z34, z35, z36, z37, z38, z39, z40, z41, z42, undef, .string t, .int .i64 (m : Int), undef, undef, undef, undef, undef, undef, undef, z53, z54, z55, z56, z57, z58, z59, z60, z61, z62, z63, z64], defers := [] } W.drew := by
    unfold ops13
    refine wpAnyIn_ready (rs := [0, 3, 5]) (by kernel_rfl) (by simp) ?_
    refine (AllReadyIn.cons rfl (fun K hK => ?_) (AllReadyIn.cons rfl (fun K hK => ?_) (AllReadyIn.cons rfl (fun K hK => ?_) AllReadyIn.nil)))
    · have HK := Lib.hid (hK _ _ g0_1_2); clear hK; clear g0_1_2 g0_1_5 g0_2_3 g0_2_5 g0_5_6 g1_2_3 g1_2_5 g1_5_6 g2_3_5 g2_5_6 g0_1 g0_2 g0_5; go_simp; exact HK.out
    · have HK := Lib.hid (hK _ _ g1_2_3); clear hK; clear g0_1_2 g0_1_5 g0_2_3 g0_2_5 g0_5_6 g1_2_3 g1_2_5 g1_5_6 g2_3_5 g2_5_6 g0_1 g0_2 g0_5; go_simp; exact HK.out
    · have HK := Lib.hid (hK _ _ g1_2_5); clear hK; clear g0_1_2 g0_1_5 g0_2_3 g0_2_5 g0_5_6 g1_2_3 g1_2_5 g1_5_6 g2_3_5 g2_5_6 g0_1 g0_2 g0_5; go_simp; exact HK.out
  have g1_5 : wpAnyIn (Fence.wide.inRound l) 6 Try.prog .any ops13 Q 9 #[false, true, false, false, false, true, false, false, false, false, false] { tmps := #[z0, .pointer (some ⟨sb, 0, none⟩), z2, z3, z4, z5, z6, z7, z8, .int .i64 (m : Int), .pointer (some ⟨qb, qo, none⟩), z11, z12, z13, z14, z15, z16, z17, z18, z19, z20, z21, z22, z23, z24, z25, z26, z27, z28, z29, z30, z31, z32, z33, z34, z35, z36, z37, z38, z39, z40, z41, z42, undef, .string t, undef, undef, undef, .int .i64 (m : Int), undef, undef, undef, undef, z53, z54, z55, z56, z57, z58, z59, z60, z61, z62, z63, z64], defers := [] } W.drew := by
    unfold ops13
    refine wpAnyIn_ready (rs := [0, 2, 6]) (by kernel_rfl) (by simp) ?_
    refine (AllReadyIn.cons rfl (fun K hK => ?_) (AllReadyIn.cons rfl (fun K hK => ?_) (AllReadyIn.cons rfl (fun K hK => ?_) AllReadyIn.nil)))
    · have HK := Lib.hid (hK _ _ g0_1_5); clear hK; clear g0_1_2 g0_1_5 g0_2_3 g0_2_5 g0_5_6 g1_2_3 g1_2_5 g1_5_6 g2_3_5 g2_5_6 g0_1 g0_2 g0_5 g1_2; go_simp; exact HK.out
    · have HK := Lib.hid (hK _ _ g1_2_5); clear hK; clear g0_1_2 g0_1_5 g0_2_3 g0_2_5 g0_5_6 g1_2_3 g1_2_5 g1_5_6 g2_3_5 g2_5_6 g0_1 g0_2 g0_5 g1_2; go_simp; exact HK.out
    · have HK := Lib.hid (hK _ _ g1_5_6); clear hK; clear g0_1_2 g0_1_5 g0_2_3 g0_2_5 g0_5_6 g1_2_3 g1_2_5 g1_5_6 g2_3_5 g2_5_6 g0_1 g0_2 g0_5 g1_2; go_simp; gi_wp2_with (refine ⟨trivial, ?_⟩; gi_at_call 32; refine (CallsIn.inRound l (callsIn_wide.2 (HM.out _))).mono ?_; rintro e w5 ⟨rfl, rfl⟩); exact HK.out
  have g2_3 : wpAnyIn (Fence.wide.inRound l) 6 Try.prog .any ops13 Q 9 #[false, false, true, true, false, false, false, false, false, false, false] { tmps := #[z0, .pointer (some ⟨sb, 0, none⟩), z2, z3, z4, z5, z6, z7, z8, .int .i64 (m : Int), .pointer (some ⟨qb, qo, none⟩), z11, z12, z13, z14, z15, z16, z17, z18, z19, z20, z21, z22, z23, z24, z25, z26, z27, z28, z29, z30, z31, z32, z33, z34, z35, z36, z37, z38, z39, z40, z41, z42, undef, undef, .int .i64 (m : Int), .int .i64 (d : Int), undef, undef, undef, undef, undef, undef, z53, z54, z55, z56, z57, z58, z59, z60, z61, z62, z63, z64], defers := [] } W.drew := by
    unfold ops13
    refine wpAnyIn_ready (rs := [0, 1, 5]) (by kernel_rfl) (by simp) ?_
    refine (AllReadyIn.cons rfl (fun K hK => ?_) (AllReadyIn.cons rfl (fun K hK => ?_) (AllReadyIn.cons rfl (fun K hK => ?_) AllReadyIn.nil)))
    · have HK := Lib.hid (hK _ _ g0_2_3); clear hK; clear g0_1_2 g0_1_5 g0_2_3 g0_2_5 g0_5_6 g1_2_3 g1_2_5 g1_5_6 g2_3_5 g2_5_6 g0_1 g0_2 g0_5 g1_2 g1_5; go_simp; exact HK.out
    · have HK := Lib.hid (hK _ _ g1_2_3); clear hK; clear g0_1_2 g0_1_5 g0_2_3 g0_2_5 g0_5_6 g1_2_3 g1_2_5 g1_5_6 g2_3_5 g2_5_6 g0_1 g0_2 g0_5 g1_2 g1_5; go_simp; exact HK.out
    · have HK := Lib.hid (hK _ _ g2_3_5); clear hK; clear g0_1_2 g0_1_5 g0_2_3 g0_2_5 g0_5_6 g1_2_3 g1_2_5 g1_5_6 g2_3_5 g2_5_6 g0_1 g0_2 g0_5 g1_2 g1_5; go_simp; exact HK.out
  have g2_5 : wpAnyIn (Fence.wide.inRound l) 6 Try.prog .any ops13 Q 9 #[false, false, true, false, false, true, false, false, false, false, false] { tmps := #[z0, .pointer (some ⟨sb, 0, none⟩), z2, z3, z4, z5, z6, z7, z8, .int .i64 (m : Int), .pointer (some ⟨qb, qo, none⟩), z11, z12, z13, z14, z15, z16, z17, z18, z19, z20, z21, z22, z23, z24, z25, z26, z27, z28, z29, z30, z31, z32, z33, z34, z35, z36, z37, z38, z39, z40, z41, z42, undef, undef, .int .i64 (m : Int), undef, undef, .int .i64 (m : Int), undef, undef, undef, undef, z53, z54, z55, z56, z57, z58, z59, z60, z61, z62, z63, z64], defers := [] } W.drew := by
    unfold ops13
    refine wpAnyIn_ready (rs := [0, 1, 3, 6]) (by kernel_rfl) (by simp) ?_
    refine (AllReadyIn.cons rfl (fun K hK => ?_) (AllReadyIn.cons rfl (fun K hK => ?_) (AllReadyIn.cons rfl (fun K hK => ?_) (AllReadyIn.cons rfl (fun K hK => ?_) AllReadyIn.nil))))
    · have HK := Lib.hid (hK _ _ g0_2_5); clear hK; clear g0_1_2 g0_1_5 g0_2_3 g0_2_5 g0_5_6 g1_2_3 g1_2_5 g1_5_6 g2_3_5 g2_5_6 g0_1 g0_2 g0_5 g1_2 g1_5 g2_3; go_simp; exact HK.out
    · have HK := Lib.hid (hK _ _ g1_2_5); clear hK; clear g0_1_2 g0_1_5 g0_2_3 g0_2_5 g0_5_6 g1_2_3 g1_2_5 g1_5_6 g2_3_5 g2_5_6 g0_1 g0_2 g0_5 g1_2 g1_5 g2_3; go_simp; exact HK.out
    · have HK := Lib.hid (hK _ _ g2_3_5); clear hK; clear g0_1_2 g0_1_5 g0_2_3 g0_2_5 g0_5_6 g1_2_3 g1_2_5 g1_5_6 g2_3_5 g2_5_6 g0_1 g0_2 g0_5 g1_2 g1_5 g2_3; go_simp; exact HK.out
    · have HK := Lib.hid (hK _ _ g2_5_6); clear hK; clear g0_1_2 g0_1_5 g0_2_3 g0_2_5 g0_5_6 g1_2_3 g1_2_5 g1_5_6 g2_3_5 g2_5_6 g0_1 g0_2 g0_5 g1_2 g1_5 g2_3; go_simp; gi_wp2_with (refine ⟨trivial, ?_⟩; gi_at_call 32; refine (CallsIn.inRound l (callsIn_wide.2 (HM.out _))).mono ?_; rintro e w5 ⟨rfl, rfl⟩); exact HK.out
  have g5_6 : wpAnyIn (Fence.wide.inRound l) 6 Try.prog .any ops13 Q 9 #[false, false, false, false, false, true, true, false, false, false, false] { tmps := #[z0, .pointer (some ⟨sb, 0, none⟩), z2, z3, z4, z5, z6, z7, z8, .int .i64 (m : Int), .pointer (some ⟨qb, qo, none⟩), z11, z12, z13, z14, z15, z16, z17, z18, z19, z20, z21, z22, z23, z24, z25, z26, z27, z28, z29, z30, z31, z32, z33, z34, z35, z36, z37, z38, z39, z40, z41, z42, undef, undef, undef, undef, undef, .int .i64 (m : Int), .int .u8 (k : Int), undef, undef, undef, z53, z54, z55, z56, z57, z58, z59, z60, z61, z62, z63, z64], defers := [] } W.drew := by
    unfold ops13
    refine wpAnyIn_ready (rs := [0, 1, 2]) (by kernel_rfl) (by simp) ?_
    refine (AllReadyIn.cons rfl (fun K hK => ?_) (AllReadyIn.cons rfl (fun K hK => ?_) (AllReadyIn.cons rfl (fun K hK => ?_) AllReadyIn.nil)))
    · have HK := Lib.hid (hK _ _ g0_5_6); clear hK; clear g0_1_2 g0_1_5 g0_2_3 g0_2_5 g0_5_6 g1_2_3 g1_2_5 g1_5_6 g2_3_5 g2_5_6 g0_1 g0_2 g0_5 g1_2 g1_5 g2_3 g2_5; go_simp; exact HK.out
    · have HK := Lib.hid (hK _ _ g1_5_6); clear hK; clear g0_1_2 g0_1_5 g0_2_3 g0_2_5 g0_5_6 g1_2_3 g1_2_5 g1_5_6 g2_3_5 g2_5_6 g0_1 g0_2 g0_5 g1_2 g1_5 g2_3 g2_5; go_simp; exact HK.out
    · have HK := Lib.hid (hK _ _ g2_5_6); clear hK; clear g0_1_2 g0_1_5 g0_2_3 g0_2_5 g0_5_6 g1_2_3 g1_2_5 g1_5_6 g2_3_5 g2_5_6 g0_1 g0_2 g0_5 g1_2 g1_5 g2_3 g2_5; go_simp; exact HK.out
  clear g0_1_2 g0_1_5 g0_2_3 g0_2_5 g0_5_6 g1_2_3 g1_2_5 g1_5_6 g2_3_5 g2_5_6
  have g0 : wpAnyIn (Fence.wide.inRound l) 6 Try.prog .any ops13 Q 10 #[true, false, false, false, false, false, false, false, false, false, false] { tmps := #[z0, .pointer (some ⟨sb, 0, none⟩), z2, z3, z4, z5, z6, z7, z8, .int .i64 (m : Int), .pointer (some ⟨qb, qo, none⟩), z11, z12, z13, z14, z15, z16, z17, z18, z19, z20, z21, z22, z23, z24, z25, z26, z27, z28, z29, z30, z31, z32, z33, z34, z35, z36, z37, z38, z39, z40, z41, z42, .pointer (some ⟨qb, qo, none⟩), undef, undef, undef, undef, undef, undef, undef, undef, undef, z53, z54, z55, z56, z57, z58, z59, z60, z61, z62, z63, z64], defers := [] } W.drew := by
    unfold ops13
    refine wpAnyIn_ready (rs := [1, 2, 5]) (by kernel_rfl) (by simp) ?_
    refine (AllReadyIn.cons rfl (fun K hK => ?_) (AllReadyIn.cons rfl (fun K hK => ?_) (AllReadyIn.cons rfl (fun K hK => ?_) AllReadyIn.nil)))
    · have HK := Lib.hid (hK _ _ g0_1); clear hK; clear g0_1 g0_2 g0_5 g1_2 g1_5 g2_3 g2_5 g5_6; go_simp; exact HK.out
    · have HK := Lib.hid (hK _ _ g0_2); clear hK; clear g0_1 g0_2 g0_5 g1_2 g1_5 g2_3 g2_5 g5_6; go_simp; exact HK.out
    · have HK := Lib.hid (hK _ _ g0_5); clear hK; clear g0_1 g0_2 g0_5 g1_2 g1_5 g2_3 g2_5 g5_6; go_simp; exact HK.out
  have g1 : wpAnyIn (Fence.wide.inRound l) 6 Try.prog .any ops13 Q 10 #[false, true, false, false, false, false, false, false, false, false, false] { tmps := #[z0, .pointer (some ⟨sb, 0, none⟩), z2, z3, z4, z5, z6, z7, z8, .int .i64 (m : Int), .pointer (some ⟨qb, qo, none⟩), z11, z12, z13, z14, z15, z16, z17, z18, z19, z20, z21, z22, z23, z24, z25, z26, z27, z28, z29, z30, z31, z32, z33, z34, z35, z36, z37, z38, z39, z40, z41, z42, undef, .string t, undef, undef, undef, undef, undef, undef, undef, undef, z53, z54, z55, z56, z57, z58, z59, z60, z61, z62, z63, z64], defers := [] } W.drew := by
    unfold ops13
    refine wpAnyIn_ready (rs := [0, 2, 5]) (by kernel_rfl) (by simp) ?_
    refine (AllReadyIn.cons rfl (fun K hK => ?_) (AllReadyIn.cons rfl (fun K hK => ?_) (AllReadyIn.cons rfl (fun K hK => ?_) AllReadyIn.nil)))
    · have HK := Lib.hid (hK _ _ g0_1); clear hK; clear g0_1 g0_2 g0_5 g1_2 g1_5 g2_3 g2_5 g5_6 g0; go_simp; exact HK.out
    · have HK := Lib.hid (hK _ _ g1_2); clear hK; clear g0_1 g0_2 g0_5 g1_2 g1_5 g2_3 g2_5 g5_6 g0; go_simp; exact HK.out
    · have HK := Lib.hid (hK _ _ g1_5); clear hK; clear g0_1 g0_2 g0_5 g1_2 g1_5 g2_3 g2_5 g5_6 g0; go_simp; exact HK.out
  have g2 : wpAnyIn (Fence.wide.inRound l) 6 Try.prog .any ops13 Q 10 #[false, false, true, false, false, false, false, false, false, false, false] { tmps := #[z0, .pointer (some ⟨sb, 0, none⟩), z2, z3, z4, z5, z6, z7, z8, .int .i64 (m : Int), .pointer (some ⟨qb, qo, none⟩), z11, z12, z13, z14, z15, z16, z17, z18, z19, z20, z21, z22, z23, z24, z25, z26, z27, z28, z29, z30, z31, z32, z33, z34, z35, z36, z37, z38, z39, z40, z41, z42, undef, undef, .int .i64 (m : Int), undef, undef, undef, undef, undef, undef, undef, z53, z54, z55, z56, z57, z58, z59, z60, z61, z62, z63, z64], defers := [] } W.drew := by
    unfold ops13
    refine wpAnyIn_ready (rs := [0, 1, 3, 5]) (by kernel_rfl) (by simp) ?_
    refine (AllReadyIn.cons rfl (fun K hK => ?_) (AllReadyIn.cons rfl (fun K hK => ?_) (AllReadyIn.cons rfl (fun K hK => ?_) (AllReadyIn.cons rfl (fun K hK => ?_) AllReadyIn.nil))))
    · have HK := Lib.hid (hK _ _ g0_2); clear hK; clear g0_1 g0_2 g0_5 g1_2 g1_5 g2_3 g2_5 g5_6 g0 g1; go_simp; exact HK.out
    · have HK := Lib.hid (hK _ _ g1_2); clear hK; clear g0_1 g0_2 g0_5 g1_2 g1_5 g2_3 g2_5 g5_6 g0 g1; go_simp; exact HK.out
    · have HK := Lib.hid (hK _ _ g2_3); clear hK; clear g0_1 g0_2 g0_5 g1_2 g1_5 g2_3 g2_5 g5_6 g0 g1; go_simp; exact HK.out
    · have HK := Lib.hid (hK _ _ g2_5); clear hK; clear g0_1 g0_2 g0_5 g1_2 g1_5 g2_3 g2_5 g5_6 g0 g1; go_simp; exact HK.out
  have g5 : wpAnyIn (Fence.wide.inRound l) 6 Try.prog .any ops13 Q 10 #[false, false, false, false, false, true, false, false, false, false, false] { tmps := #[z0, .pointer (some ⟨sb, 0, none⟩), z2, z3, z4, z5, z6, z7, z8, .int .i64 (m : Int), .pointer (some ⟨qb, qo, none⟩), z11, z12, z13, z14, z15, z16, z17, z18, z19, z20, z21, z22, z23, z24, z25, z26, z27, z28, z29, z30, z31, z32, z33, z34, z35, z36, z37, z38, z39, z40, z41, z42, undef, undef, undef, undef, undef, .int .i64 (m : Int), undef, undef, undef, undef, z53, z54, z55, z56, z57, z58, z59, z60, z61, z62, z63, z64], defers := [] } W.drew := by
    unfold ops13
    refine wpAnyIn_ready (rs := [0, 1, 2, 6]) (by kernel_rfl) (by simp) ?_
    refine (AllReadyIn.cons rfl (fun K hK => ?_) (AllReadyIn.cons rfl (fun K hK => ?_) (AllReadyIn.cons rfl (fun K hK => ?_) (AllReadyIn.cons rfl (fun K hK => ?_) AllReadyIn.nil))))
    · have HK := Lib.hid (hK _ _ g0_5); clear hK; clear g0_1 g0_2 g0_5 g1_2 g1_5 g2_3 g2_5 g5_6 g0 g1 g2; go_simp; exact HK.out
    · have HK := Lib.hid (hK _ _ g1_5); clear hK; clear g0_1 g0_2 g0_5 g1_2 g1_5 g2_3 g2_5 g5_6 g0 g1 g2; go_simp; exact HK.out
    · have HK := Lib.hid (hK _ _ g2_5); clear hK; clear g0_1 g0_2 g0_5 g1_2 g1_5 g2_3 g2_5 g5_6 g0 g1 g2; go_simp; exact HK.out
    · have HK := Lib.hid (hK _ _ g5_6); clear hK; clear g0_1 g0_2 g0_5 g1_2 g1_5 g2_3 g2_5 g5_6 g0 g1 g2; go_simp; gi_wp2_with (refine ⟨trivial, ?_⟩; gi_at_call 32; refine (CallsIn.inRound l (callsIn_wide.2 (HM.out _))).mono ?_; rintro e w5 ⟨rfl, rfl⟩); exact HK.out
  clear g0_1 g0_2 g0_5 g1_2 g1_5 g2_3 g2_5 g5_6
  have g : wpAnyIn (Fence.wide.inRound l) 6 Try.prog .any ops13 Q 11 #[false, false, false, false, false, false, false, false, false, false, false] { tmps := #[z0, .pointer (some ⟨sb, 0, none⟩), z2, z3, z4, z5, z6, z7, z8, .int .i64 (m : Int), .pointer (some ⟨qb, qo, none⟩), z11, z12, z13, z14, z15, z16, z17, z18, z19, z20, z21, z22, z23, z24, z25, z26, z27, z28, z29, z30, z31, z32, z33, z34, z35, z36, z37, z38, z39, z40, z41, z42, undef, undef, undef, undef, undef, undef, undef, undef, undef, undef, z53, z54, z55, z56, z57, z58, z59, z60, z61, z62, z63, z64], defers := [] } W.drew := by
    unfold ops13
    refine wpAnyIn_ready (rs := [0, 1, 2, 5]) (by kernel_rfl) (by simp) ?_
    refine (AllReadyIn.cons rfl (fun K hK => ?_) (AllReadyIn.cons rfl (fun K hK => ?_) (AllReadyIn.cons rfl (fun K hK => ?_) (AllReadyIn.cons rfl (fun K hK => ?_) AllReadyIn.nil))))
    · have HK := Lib.hid (hK _ _ g0); clear hK; clear g0 g1 g2 g5; go_simp; exact HK.out
    · have HK := Lib.hid (hK _ _ g1); clear hK; clear g0 g1 g2 g5; go_simp; exact HK.out
    · have HK := Lib.hid (hK _ _ g2); clear hK; clear g0 g1 g2 g5; go_simp; exact HK.out
    · have HK := Lib.hid (hK _ _ g5); clear hK; clear g0 g1 g2 g5; go_simp; exact HK.out
  exact g
end Go.Proofs.Ytgepgbpjdjbelaa
