/-
  WALK: an instruction's bytes, as the program adds them.
-/
import Derived.Test.YtjdaaecbnhcoaaaDoorK17
import Derived.Test.YtjdaaecbnhcoaaaDoorK14
import Derived.Deep.RegionHeld3
set_option linter.unusedVariables false
set_option linter.unusedSimpArgs false
namespace Go.Proofs.YtjdaaecbnhcoaaaDoor
open Go.RowKit

def keyN (x : In) (i : Nat) : List UInt8 := beN 2 (x.keys.getD i 0) ++ beN 2 (x.to.getD (i + 1) 0 - x.pc)
def keysN (x : In) (k : Nat) : List UInt8 := (List.range k).flatMap (keyN x)
theorem keysN_succ (x : In) (k : Nat) : keysN x (k + 1) = keysN x k ++ keyN x k := by simp [keysN, List.range_succ]
theorem keysN_length (x : In) (k : Nat) : (keysN x k).length = 4 * k := by
  induction k with
  | zero => rfl
  | succ k ih => rw [keysN_succ, List.length_append, ih, keyN, List.length_append, beN_length, beN_length]; omega
def tailB (x : In) : List UInt8 := if formP x.op = 110 then beN 2 x.n else if formP x.op = 98 then beN 1 x.n else if formP x.op = 106 then beN 2 (x.to.getD 0 0 - x.pc)
  else if formP x.op = 115 then (beN 2 (x.to.getD 0 0 - x.pc) ++ beN 2 x.keys.length) ++ keysN x x.keys.length else []
/-- The bytes of an instruction. -/
def encB (x : In) : List UInt8 := beN 1 x.op ++ tailB x
theorem nums_1 (k : Nat) (a : Int) : numsN k [a] = beN k a := by simp [numsN]
theorem nums_2 (k : Nat) (a b : Int) : numsN k [a, b] = beN k a ++ beN k b := by simp [numsN]
/-- What is asked of an instruction whose bytes are added. -/
structure Fine (x : In) : Prop where
  jm : x.to.length = jmpP x
  key : x.keys.length ≤ 1022
  pc : 0 ≤ x.pc ∧ x.pc < 4096
  tos : ∀ t ∈ x.to, 0 ≤ t ∧ t < 4096
set_option maxRecDepth 1000000 in
set_option maxHeartbeats 12800000 in
theorem appendInstr_any (B : Nat) (x : In) (hx : Fine x) (Ak At : Option Addr) (ck ct : Nat) (v : Value) (l : List UInt8) (base : Nat) (w : World) (hk : IRow B w (.slice Ak x.keys.length ck) x.keys) (ht : IRow B w (.slice At x.to.length ct) x.to) (hBb : B ≤ base)
    (hown : OwnB w base v l) (hl : l.length ≤ 50000000) (hb : base ≤ w.heap.size) :
    Calls Tryd.prog 38 #[v, .agg #[.int .i64 x.pc, .int .i64 x.op, .int .i64 x.n, .slice Ak x.keys.length ck, .slice At x.to.length ct]] w fun e w' => ∃ v', e = .returned v' ∧ OwnB w' base v' (l ++ encB x) ∧ Kept 5 base w w' := by
  obtain ⟨f, hf⟩ : ∃ f, formP x.op = f := ⟨_, rfl⟩
  have HFO := fun W => Lib.hid (Form_any x.op W)
  rw [hf] at HFO
  have hfi := formP_in x.op
  rw [hf] at hfi
  have HF := Lib.hid hf
  have FI := Lib.hid hx
  have hkey := hx.key
  have HKR := Lib.hid hk
  have HTR := Lib.hid ht
  have HO := Lib.hid hown
  have hm0 := heap_new w (.cells #[.int .i64 x.pc, .int .i64 x.op, .int .i64 x.n, .slice Ak x.keys.length ck, .slice At x.to.length ct] 43)
  have HM0 := Lib.hid (heap_alloc_lt (o := (.cells #[.int .i64 x.op] 3)) hm0)
  have HK0 := Lib.hid (((Kept.refl 5 base w).alloc hb (.cells #[.int .i64 x.pc, .int .i64 x.op, .int .i64 x.n, .slice Ak x.keys.length ck, .slice At x.to.length ct] 43)).alloc (le_alloc hb _) (.cells #[.int .i64 x.op] 3))
  have HO0 := Lib.hid ((hown.alloc (.cells #[.int .i64 x.pc, .int .i64 x.op, .int .i64 x.n, .slice Ak x.keys.length ck, .slice At x.to.length ct] 43)).alloc (.cells #[.int .i64 x.op] 3))
  have HI0 := Lib.hid (heap_new_at (w.alloc (.cells #[.int .i64 x.pc, .int .i64 x.op, .int .i64 x.n, .slice Ak x.keys.length ck, .slice At x.to.length ct] 43)) (.cells #[.int .i64 x.op] 3) (w.heap.size + 1) (by simp))
  clear hf hk ht hown hm0 hx
  go_enter Tryd.func38, Tryd.ntmps38
  go_wp2_with fail
  refine (write_1 [x.op] (by simp) (w.heap.size + 1) v l base _ HI0.out HO0.out (by omega) (by simp; omega)).mono ?_
  rintro e w1 ⟨v1, rfl, hown1, hk1⟩
  have HO1 := Lib.hid (show OwnB w1 base v1 (l ++ beN 1 x.op) by rw [← nums_1]; exact hown1)
  have HK1 := Lib.hid (HK0.out.trans hk1)
  have MB := hk1.other _ _ _ _ (by decide) HM0.out
  have hbW : base ≤ w1.heap.size := Nat.le_trans hb HK1.out.size
  have hl1 : (l ++ beN 1 x.op).length ≤ 50000001 := by rw [List.length_append, beN_length]; omega
  obtain ⟨l1, hl1e⟩ : ∃ m, l ++ beN 1 x.op = m := ⟨_, rfl⟩
  rw [hl1e] at HO1 hl1
  have HL1 := Lib.hid hl1e
  have c0 := cells_of MB 0
  have c1 := cells_of MB 1
  have c2 := cells_of MB 2
  have c3 := cells_of MB 3
  have c4 := cells_of MB 4
  simp at c0 c1 c2 c3 c4
  have HMB := Lib.hid MB
  have hNl := lt_of_block MB
  obtain ⟨a1, cp1, rfl⟩ := HO1.out.slice
  clear hown1 hk1 MB hl1e HK0 HM0 HO0 HI0
  go_wp2_with fail
  refine (HFO _).out.mono ?_
  rintro e w3 ⟨rfl, rfl⟩
  rcases hfi with rfl | rfl | rfl | rfl | rfl | rfl
  · have HE := Lib.hid (show l ++ encB x = l1 by unfold encB tailB; rw [HF.out, ← HL1.out]; simp)
    go_wp2
    go_ret
    exact ⟨_, rfl, by rw [HE.out]; exact HO1.out, HK1.out⟩
  · -- a switch
    have hjm : x.to.length = x.keys.length + 1 := by rw [FI.out.jm]; unfold jmpP; rw [HF.out]; rfl
    have hu := List.getElem?_eq_getElem (show 0 < x.to.length by omega)
    generalize x.to[0]'(by omega) = t0 at hu
    have HU := Lib.hid hu
    have hT1 := HTR.out.below HK1.out.below hBb
    obtain ⟨b2, o2, rfl, hb2B, t0c⟩ := hT1.at_ hu
    simp only [Nat.add_zero] at t0c
    have hbd := FI.out.tos t0 (List.mem_of_getElem? hu)
    have hpd := FI.out.pc
    have hlW : l1.length ≤ 100000000 := by omega
    have hbA : ∀ o, base ≤ (w1.drew.alloc o).heap.size := fun o => by show base ≤ (w1.alloc o).heap.size; simp; omega
    have hwr : IntKind.i64.wrap (t0 - x.pc) = t0 - x.pc := IntWalk.i64_in _ (by omega)
    have hb2b : b2 < base := by omega
    have hb2w : b2 < w1.heap.size := by omega
    have hto0 : (0 : Int) < (x.to.length : Int) := by omega
    have hto0n : 0 < x.to.length := by omega
    have KW := HK1
    have MB := HMB.out
    have HJM := Lib.hid hjm
    clear hu hT1 hjm
    go_wp2
    refine wp_region_held_drew (S := (fun w' => w'.heap[w.heap.size]? = some (.cells #[.int .i64 x.pc, .int .i64 x.op, .int .i64 x.n, .slice Ak x.keys.length ck, .slice (some ⟨b2, o2, none⟩) x.to.length ct] 43 (0, 0)) ∧ w'.cell? ⟨w.heap.size, 0, none⟩ = some (.int .i64 x.pc) ∧ w'.cell? ⟨w.heap.size, 3, none⟩ = some (.slice Ak x.keys.length ck) ∧ w'.cell? ⟨w.heap.size, 4, none⟩ = some (.slice (some ⟨b2, o2, none⟩) x.to.length ct) ∧ w'.cell? ⟨b2, o2, none⟩ = some (.int .i64 t0) ∧ Kept 5 base w w')) (by kernel_rfl) (⟨MB, cells_of MB 0, cells_of MB 3, cells_of MB 4, t0c, KW.out.drew⟩) (fun hHeld => ?_)
    refine wpAnyH_take (i := 0) (oi := ({ dst := some 43, op := Op.move (Operand.tmp 0), type := 46, pos := "bytes.go:87", after := #[], guard := none } : Oper)) (v := ?v2x0) rfl (by kernel_rfl) (by kernel_rfl) (by kernel_rfl) (fun _ _ _ h => h) (Or.inl ⟨by rfl, ?hy2x0⟩) hHeld ?_
    case hy2x0 => ((intro w hSw); (try dsimp only at hSw); go_simp; try with_reducible rfl)
    try simp only [Act.put, List.setIfInBounds_toArray, List.set_cons_zero, List.set_cons_succ]
    refine wpAnyH_take (i := 1) (oi := ({ dst := some 44, op := Op.fieldAddr 43 (Operand.tmp 3) 4, type := 0, pos := "bytes.go:87", after := #[], guard := none } : Oper)) (v := ?v2x1) rfl (by kernel_rfl) (by kernel_rfl) (by kernel_rfl) (fun _ _ _ h => h) (Or.inl ⟨by rfl, ?hy2x1⟩) hHeld ?_
    case hy2x1 => ((intro w hSw); (try dsimp only at hSw); go_simp; try with_reducible rfl)
    try simp only [Act.put, List.setIfInBounds_toArray, List.set_cons_zero, List.set_cons_succ]
    refine wpAnyH_take (i := 2) (oi := ({ dst := some 45, op := Op.load 41 (Operand.tmp 44), type := 41, pos := "bytes.go:87", after := #[{ on := 1, ground := Ground.data }], guard := none } : Oper)) (v := ?v2x2) rfl (by kernel_rfl) (by kernel_rfl) (by kernel_rfl) (fun _ _ _ h => h) (Or.inl ⟨by rfl, ?hy2x2⟩) hHeld ?_
    case hy2x2 => ((intro w hSw); (try dsimp only at hSw); go_simp; try with_reducible rfl)
    try simp only [Act.put, List.setIfInBounds_toArray, List.set_cons_zero, List.set_cons_succ]
    refine wpAnyH_take (i := 3) (oi := ({ dst := some 46, op := Op.indexAddr 41 (Operand.tmp 45) (Operand.const (Value.int IntKind.i64 0)), type := 0, pos := "bytes.go:87", after := #[{ on := 2, ground := Ground.data }], guard := none } : Oper)) (v := ?v2x3) rfl (by kernel_rfl) (by kernel_rfl) (by kernel_rfl) (fun _ _ _ h => h) (Or.inl ⟨by rfl, ?hy2x3⟩) hHeld ?_
    case hy2x3 => ((intro w hSw); (try dsimp only at hSw); go_simp; try with_reducible rfl)
    try simp only [Act.put, List.setIfInBounds_toArray, List.set_cons_zero, List.set_cons_succ]
    refine wpAnyH_take (i := 4) (oi := ({ dst := some 47, op := Op.load 3 (Operand.tmp 46), type := 3, pos := "bytes.go:87", after := #[{ on := 3, ground := Ground.data }], guard := none } : Oper)) (v := ?v2x4) rfl (by kernel_rfl) (by kernel_rfl) (by kernel_rfl) (fun _ _ _ h => h) (Or.inl ⟨by rfl, ?hy2x4⟩) hHeld ?_
    case hy2x4 => ((intro w hSw); (try dsimp only at hSw); go_simp; try with_reducible rfl)
    try simp only [Act.put, List.setIfInBounds_toArray, List.set_cons_zero, List.set_cons_succ]
    refine wpAnyH_take (i := 5) (oi := ({ dst := some 48, op := Op.fieldAddr 43 (Operand.tmp 3) 0, type := 0, pos := "bytes.go:87", after := #[], guard := none } : Oper)) (v := ?v2x5) rfl (by kernel_rfl) (by kernel_rfl) (by kernel_rfl) (fun _ _ _ h => h) (Or.inl ⟨by rfl, ?hy2x5⟩) hHeld ?_
    case hy2x5 => ((intro w hSw); (try dsimp only at hSw); go_simp; try with_reducible rfl)
    try simp only [Act.put, List.setIfInBounds_toArray, List.set_cons_zero, List.set_cons_succ]
    refine wpAnyH_take (i := 6) (oi := ({ dst := some 49, op := Op.load 3 (Operand.tmp 48), type := 3, pos := "bytes.go:87", after := #[{ on := 5, ground := Ground.data }], guard := none } : Oper)) (v := ?v2x6) rfl (by kernel_rfl) (by kernel_rfl) (by kernel_rfl) (fun _ _ _ h => h) (Or.inl ⟨by rfl, ?hy2x6⟩) hHeld ?_
    case hy2x6 => ((intro w hSw); (try dsimp only at hSw); go_simp; try with_reducible rfl)
    try simp only [Act.put, List.setIfInBounds_toArray, List.set_cons_zero, List.set_cons_succ]
    refine wpAnyH_take (i := 7) (oi := ({ dst := some 50, op := Op.binOp BinOp.sub 3 (Operand.tmp 47) (Operand.tmp 49) 3, type := 3, pos := "bytes.go:87", after := #[{ on := 4, ground := Ground.data }, { on := 6, ground := Ground.data }], guard := none } : Oper)) (v := ?v2x7) rfl (by kernel_rfl) (by kernel_rfl) (by kernel_rfl) (fun _ _ _ h => h) (Or.inl ⟨by rfl, ?hy2x7⟩) hHeld ?_
    case hy2x7 => ((intro w hSw); (try dsimp only at hSw); go_simp; try with_reducible rfl)
    try simp only [Act.put, List.setIfInBounds_toArray, List.set_cons_zero, List.set_cons_succ]
    refine wpAnyH_take (i := 8) (oi := ({ dst := some 51, op := Op.fieldAddr 43 (Operand.tmp 3) 3, type := 0, pos := "bytes.go:87", after := #[], guard := none } : Oper)) (v := ?v2x8) rfl (by kernel_rfl) (by kernel_rfl) (by kernel_rfl) (fun _ _ _ h => h) (Or.inl ⟨by rfl, ?hy2x8⟩) hHeld ?_
    case hy2x8 => ((intro w hSw); (try dsimp only at hSw); go_simp; try with_reducible rfl)
    try simp only [Act.put, List.setIfInBounds_toArray, List.set_cons_zero, List.set_cons_succ]
    refine wpAnyH_take (i := 9) (oi := ({ dst := some 52, op := Op.load 41 (Operand.tmp 51), type := 41, pos := "bytes.go:87", after := #[{ on := 8, ground := Ground.data }], guard := none } : Oper)) (v := ?v2x9) rfl (by kernel_rfl) (by kernel_rfl) (by kernel_rfl) (fun _ _ _ h => h) (Or.inl ⟨by rfl, ?hy2x9⟩) hHeld ?_
    case hy2x9 => ((intro w hSw); (try dsimp only at hSw); go_simp; try with_reducible rfl)
    try simp only [Act.put, List.setIfInBounds_toArray, List.set_cons_zero, List.set_cons_succ]
    refine wpAnyH_take (i := 10) (oi := ({ dst := some 53, op := Op.call { callee := Callee.builtin Builtin.len, args := #[Operand.tmp 52], argTypes := #[41] }, type := 3, pos := "bytes.go:87", after := #[{ on := 9, ground := Ground.data }], guard := none } : Oper)) (v := ?v2x10) rfl (by kernel_rfl) (by kernel_rfl) (by kernel_rfl) (fun _ _ _ h => h) (Or.inl ⟨by rfl, ?hy2x10⟩) hHeld ?_
    case hy2x10 => ((intro w hSw); (try dsimp only at hSw); go_simp; try with_reducible rfl)
    try simp only [Act.put, List.setIfInBounds_toArray, List.set_cons_zero, List.set_cons_succ]
    refine wpAnyH_ready (rs := [11]) (by kernel_rfl) (by simp) ?_
    refine AllReadyH.cons (o := ({ dst := some 54, op := Op.buildSlice 41 2 #[(0, Operand.tmp 50), (1, Operand.tmp 53)], type := 41, pos := "bytes.go:87", after := #[{ on := 7, ground := Ground.data }, { on := 10, ground := Ground.data }], guard := none } : Oper)) rfl (fun K hK => ?_) AllReadyH.nil
    go_simp
    have hM2 := heap_alloc_lt (o := (.cells #[.int .i64 (t0 - x.pc), .int .i64 ((x.keys.length : Int))] 3)) hHeld.1
    have hT2 := (World.cell?_alloc_lt w1.drew (.cells #[.int .i64 (t0 - x.pc), .int .i64 ((x.keys.length : Int))] 3) ⟨b2, o2, none⟩ hb2w).trans hHeld.2.2.2.2.1
    have hK2 := hHeld.2.2.2.2.2.alloc hbW (.cells #[.int .i64 (t0 - x.pc), .int .i64 ((x.keys.length : Int))] 3)
    refine hK.out _ _ ⟨hM2, cells_of hM2 0, cells_of hM2 3, cells_of hM2 4, hT2, hK2⟩ (fun hHeld1 => ?_)
    clear hK K hHeld
    try simp only [Act.put, List.setIfInBounds_toArray, List.set_cons_zero, List.set_cons_succ]
    refine wpAnyH_ready (rs := [12]) (by kernel_rfl) (by simp) ?_
    refine AllReadyH.cons (o := ({ dst := some 55, op := Op.call { callee := Callee.value (Operand.func 49), args := #[Operand.tmp 43, Operand.const (Value.int IntKind.i64 2), Operand.tmp 54], argTypes := #[46, 3, 41] }, type := 46, pos := "bytes.go:87", after := #[{ on := 0, ground := Ground.data }, { on := 11, ground := Ground.data }], guard := none } : Oper)) rfl (fun K hK => ?_) AllReadyH.nil
    go_simp
    go_at_call 49
    refine (write_2 [t0 - x.pc, (x.keys.length : Int)] (by simp) w1.heap.size _ l1 base (w1.drew.alloc (.cells #[.int .i64 (t0 - x.pc), .int .i64 ((x.keys.length : Int))] 3)) (heap_new _ _) (OwnB.alloc (w := w1.drew) HO1.out _) hlW (hbA _)).mono ?_
    rintro e w9 ⟨v9, rfl, hown9, hk9⟩
    try go_wp2_with fail
    have hM3 := hk9.other _ _ _ _ (by decide) hHeld1.1
    have hT3 := (hk9.below.cell (p := ⟨b2, o2, none⟩) hb2b).trans hHeld1.2.2.2.2.1
    have hK3 := hHeld1.2.2.2.2.2.trans hk9
    refine hK.out _ _ ⟨hM3, cells_of hM3 0, cells_of hM3 3, cells_of hM3 4, hT3, hK3⟩ (fun hHeld2 => ?_)
    clear hK K hHeld1
    try simp only [Act.put, List.setIfInBounds_toArray, List.set_cons_zero, List.set_cons_succ]
    refine wpAnyH_take (i := 13) (oi := ({ dst := some 0, op := Op.assign (Operand.tmp 55), type := 46, pos := "bytes.go:87", after := #[{ on := 12, ground := Ground.data }, { on := 12, ground := Ground.chain }, { on := 0, ground := Ground.phase }, { on := 1, ground := Ground.phase }, { on := 2, ground := Ground.phase }, { on := 3, ground := Ground.phase }, { on := 4, ground := Ground.phase }, { on := 5, ground := Ground.phase }, { on := 6, ground := Ground.phase }, { on := 7, ground := Ground.phase }, { on := 8, ground := Ground.phase }, { on := 9, ground := Ground.phase }, { on := 10, ground := Ground.phase }, { on := 11, ground := Ground.phase }, { on := 12, ground := Ground.phase }], guard := none } : Oper)) (v := ?v2x13) rfl (by kernel_rfl) (by kernel_rfl) (by kernel_rfl) (fun _ _ _ h => h) (Or.inl ⟨by rfl, ?hy2x13⟩) hHeld2 ?_
    case hy2x13 => ((intro w hSw); (try dsimp only at hSw); go_simp; try with_reducible rfl)
    try simp only [Act.put, List.setIfInBounds_toArray, List.set_cons_zero, List.set_cons_succ]
    refine wpAnyH_done (by kernel_rfl) ?_ _
    have O9 := Lib.hid hown9
    have K9 := Lib.hid hK3
    have M9 := hM3
    clear hHeld2 hM2 hT2 hK2 hM3 hT3 hK3 hown9 hk9
    have hwk := HU.out
    have HL2 := Lib.hid (show l1 ++ numsN 2 [t0 - x.pc, (x.keys.length : Int)] = (l ++ beN 1 x.op) ++ (beN 2 (x.to.getD 0 0 - x.pc) ++ beN 2 x.keys.length) by rw [nums_2, HL1.out]; simp [List.getD, HU.out])
    have hl2 : (l1 ++ numsN 2 [t0 - x.pc, (x.keys.length : Int)]).length ≤ 50000005 := by rw [List.length_append, numsN_length]; simp; omega
    obtain ⟨l2, hl2e⟩ : ∃ m, l1 ++ numsN 2 [t0 - x.pc, (x.keys.length : Int)] = m := ⟨_, rfl⟩
    rw [hl2e] at O9 hl2 HL2
    obtain ⟨a9, c9, rfl⟩ := O9.out.slice
    have HM9 := Lib.hid M9
    have d3 := cells_of M9 3
    have hN9 := lt_of_block M9
    simp at d3
    clear hl2e M9 hwk c0 c1 c2 c3 c4 t0c hwr MB hb2w
    go_wp2
    go_loopg [0, 59] x.keys.length (fun g bv iv wx => ∃ k : Nat, iv = .int .i64 k ∧ k + g = x.keys.length ∧ OwnB wx base bv (l2 ++ keysN x k) ∧ wx.heap[w.heap.size]? = some (.cells #[.int .i64 x.pc, .int .i64 x.op, .int .i64 x.n, .slice Ak x.keys.length ck, .slice (some ⟨b2, o2, none⟩) x.to.length ct] 43 (0, 0)) ∧ Kept 5 base w wx)
    case atStart => exact ⟨0, rfl, by omega, by simp [keysN]; exact O9.out, HM9.out, K9.out⟩
    case round =>
      obtain ⟨k, rfl, hkg, hown, MB, hkw⟩ := hrel
      obtain ⟨lk, hlk⟩ : ∃ m, l2 ++ keysN x k = m := ⟨_, rfl⟩
      have hlnn : (l2 ++ keysN x k).length ≤ 50005000 := by rw [List.length_append, keysN_length]; omega
      rw [hlk] at hown hlnn
      have HLK := Lib.hid hlk
      have OR := Lib.hid hown
      have KW := Lib.hid hkw
      have HMB' := Lib.hid MB
      have hbW : base ≤ wr.heap.size := Nat.le_trans hb hkw.size
      obtain ⟨ab, cb, rfl⟩ := hown.slice
      have hNr := lt_of_block MB
      clear hown hkw hlk
      by_cases hlt : k < x.keys.length
      · have hgg : gk - 1 < gk := by omega
        have hy := List.getElem?_eq_getElem hlt
        generalize x.keys[k] = kk at hy
        have hu2 := List.getElem?_eq_getElem (show k + 1 < x.to.length by have := HJM.out; omega)
        generalize x.to[k + 1]'(by have := HJM.out; omega) = tk at hu2
        have hK1 := HKR.out.below KW.out.below hBb
        obtain ⟨b3, o3, e3, hb3B, k0c⟩ := hK1.at_ hy
        subst e3
        have hT1 := HTR.out.below KW.out.below hBb
        obtain ⟨b4, o4, e4, hb4B, t0c⟩ := hT1.at_ hu2
        injection e4 with e4
        injection e4 with e4 e5
        subst e4 e5
        have hbd2 := FI.out.tos tk (List.mem_of_getElem? hu2)
        have hlW : lk.length ≤ 100000000 := by omega
        have hbA : ∀ o, base ≤ (wr.drew.alloc o).heap.size := fun o => by show base ≤ (wr.alloc o).heap.size; simp; omega
        have hb2w : b2 < wr.heap.size := by omega
        have hwr : IntKind.i64.wrap (tk - x.pc) = tk - x.pc := IntWalk.i64_in _ (by omega)
        have hw1 : IntKind.i64.wrap ((k : Int) + 1) = (k : Int) + 1 := IntWalk.i64_in _ (by omega)
        have hw3 : 0 ≤ (k : Int) + 1 := by omega
        have hw5 : (k : Int) + 1 < (x.to.length : Int) := by have := HJM.out; omega
        have hw4 : ((k : Int) + 1).toNat = k + 1 := by omega
        have HKN := Lib.hid (show numsN 2 [kk, tk - x.pc] = keyN x k by rw [nums_2]; unfold keyN; simp [List.getD, hy, hu2])
        clear hy hu2 hK1 hT1
        go_wp2
        refine wp_region_held_drew (S := (fun w' => w'.heap[w.heap.size]? = some (.cells #[.int .i64 x.pc, .int .i64 x.op, .int .i64 x.n, .slice (some ⟨b3, o3, none⟩) x.keys.length ck, .slice (some ⟨b2, o2, none⟩) x.to.length ct] 43 (0, 0)) ∧ w'.cell? ⟨w.heap.size, 0, none⟩ = some (.int .i64 x.pc) ∧ w'.cell? ⟨w.heap.size, 3, none⟩ = some (.slice (some ⟨b3, o3, none⟩) x.keys.length ck) ∧ w'.cell? ⟨w.heap.size, 4, none⟩ = some (.slice (some ⟨b2, o2, none⟩) x.to.length ct) ∧ w'.cell? ⟨b2, o2 + (k + 1), none⟩ = some (.int .i64 tk) ∧ Kept 5 base w w')) (by kernel_rfl) (⟨MB, cells_of MB 0, cells_of MB 3, cells_of MB 4, t0c, KW.out.drew⟩) (fun hHeld => ?_)
        refine wpAnyH_take (i := 0) (oi := ({ dst := some 64, op := Op.move (Operand.tmp 0), type := 46, pos := "bytes.go:89", after := #[], guard := none } : Oper)) (v := ?v3x0) rfl (by kernel_rfl) (by kernel_rfl) (by kernel_rfl) (fun _ _ _ h => h) (Or.inl ⟨by rfl, ?hy3x0⟩) hHeld ?_
        case hy3x0 => ((intro w hSw); (try dsimp only at hSw); go_simp; try with_reducible rfl)
        try simp only [Act.put, List.setIfInBounds_toArray, List.set_cons_zero, List.set_cons_succ]
        refine wpAnyH_take (i := 1) (oi := ({ dst := some 65, op := Op.move (Operand.tmp 6), type := 3, pos := "bytes.go:89", after := #[], guard := none } : Oper)) (v := ?v3x1) rfl (by kernel_rfl) (by kernel_rfl) (by kernel_rfl) (fun _ _ _ h => h) (Or.inl ⟨by rfl, ?hy3x1⟩) hHeld ?_
        case hy3x1 => ((intro w hSw); (try dsimp only at hSw); go_simp; try with_reducible rfl)
        try simp only [Act.put, List.setIfInBounds_toArray, List.set_cons_zero, List.set_cons_succ]
        refine wpAnyH_take (i := 2) (oi := ({ dst := some 66, op := Op.fieldAddr 43 (Operand.tmp 3) 4, type := 0, pos := "bytes.go:89", after := #[], guard := none } : Oper)) (v := ?v3x2) rfl (by kernel_rfl) (by kernel_rfl) (by kernel_rfl) (fun _ _ _ h => h) (Or.inl ⟨by rfl, ?hy3x2⟩) hHeld ?_
        case hy3x2 => ((intro w hSw); (try dsimp only at hSw); go_simp; try with_reducible rfl)
        try simp only [Act.put, List.setIfInBounds_toArray, List.set_cons_zero, List.set_cons_succ]
        refine wpAnyH_take (i := 3) (oi := ({ dst := some 67, op := Op.load 41 (Operand.tmp 66), type := 41, pos := "bytes.go:89", after := #[{ on := 2, ground := Ground.data }], guard := none } : Oper)) (v := ?v3x3) rfl (by kernel_rfl) (by kernel_rfl) (by kernel_rfl) (fun _ _ _ h => h) (Or.inl ⟨by rfl, ?hy3x3⟩) hHeld ?_
        case hy3x3 => ((intro w hSw); (try dsimp only at hSw); go_simp; try with_reducible rfl)
        try simp only [Act.put, List.setIfInBounds_toArray, List.set_cons_zero, List.set_cons_succ]
        refine wpAnyH_take (i := 4) (oi := ({ dst := some 68, op := Op.move (Operand.tmp 5), type := 3, pos := "bytes.go:89", after := #[], guard := none } : Oper)) (v := ?v3x4) rfl (by kernel_rfl) (by kernel_rfl) (by kernel_rfl) (fun _ _ _ h => h) (Or.inl ⟨by rfl, ?hy3x4⟩) hHeld ?_
        case hy3x4 => ((intro w hSw); (try dsimp only at hSw); go_simp; try with_reducible rfl)
        try simp only [Act.put, List.setIfInBounds_toArray, List.set_cons_zero, List.set_cons_succ]
        refine wpAnyH_take (i := 5) (oi := ({ dst := some 69, op := Op.binOp BinOp.add 3 (Operand.tmp 68) (Operand.const (Value.int IntKind.i64 1)) 3, type := 3, pos := "bytes.go:89", after := #[{ on := 4, ground := Ground.data }], guard := none } : Oper)) (v := ?v3x5) rfl (by kernel_rfl) (by kernel_rfl) (by kernel_rfl) (fun _ _ _ h => h) (Or.inl ⟨by rfl, ?hy3x5⟩) hHeld ?_
        case hy3x5 => ((intro w hSw); (try dsimp only at hSw); go_simp; try with_reducible rfl)
        try simp only [Act.put, List.setIfInBounds_toArray, List.set_cons_zero, List.set_cons_succ]
        refine wpAnyH_take (i := 6) (oi := ({ dst := some 70, op := Op.indexAddr 41 (Operand.tmp 67) (Operand.tmp 69), type := 0, pos := "bytes.go:89", after := #[{ on := 3, ground := Ground.data }, { on := 5, ground := Ground.data }], guard := none } : Oper)) (v := ?v3x6) rfl (by kernel_rfl) (by kernel_rfl) (by kernel_rfl) (fun _ _ _ h => h) (Or.inl ⟨by rfl, ?hy3x6⟩) hHeld ?_
        case hy3x6 => ((intro w hSw); (try dsimp only at hSw); go_simp; try with_reducible rfl)
        try simp only [Act.put, List.setIfInBounds_toArray, List.set_cons_zero, List.set_cons_succ]
        refine wpAnyH_take (i := 7) (oi := ({ dst := some 71, op := Op.load 3 (Operand.tmp 70), type := 3, pos := "bytes.go:89", after := #[{ on := 6, ground := Ground.data }], guard := none } : Oper)) (v := ?v3x7) rfl (by kernel_rfl) (by kernel_rfl) (by kernel_rfl) (fun _ _ _ h => h) (Or.inl ⟨by rfl, ?hy3x7⟩) hHeld ?_
        case hy3x7 => ((intro w hSw); (try dsimp only at hSw); go_simp; try with_reducible rfl)
        try simp only [Act.put, List.setIfInBounds_toArray, List.set_cons_zero, List.set_cons_succ]
        refine wpAnyH_take (i := 8) (oi := ({ dst := some 72, op := Op.fieldAddr 43 (Operand.tmp 3) 0, type := 0, pos := "bytes.go:89", after := #[], guard := none } : Oper)) (v := ?v3x8) rfl (by kernel_rfl) (by kernel_rfl) (by kernel_rfl) (fun _ _ _ h => h) (Or.inl ⟨by rfl, ?hy3x8⟩) hHeld ?_
        case hy3x8 => ((intro w hSw); (try dsimp only at hSw); go_simp; try with_reducible rfl)
        try simp only [Act.put, List.setIfInBounds_toArray, List.set_cons_zero, List.set_cons_succ]
        refine wpAnyH_take (i := 9) (oi := ({ dst := some 73, op := Op.load 3 (Operand.tmp 72), type := 3, pos := "bytes.go:89", after := #[{ on := 8, ground := Ground.data }], guard := none } : Oper)) (v := ?v3x9) rfl (by kernel_rfl) (by kernel_rfl) (by kernel_rfl) (fun _ _ _ h => h) (Or.inl ⟨by rfl, ?hy3x9⟩) hHeld ?_
        case hy3x9 => ((intro w hSw); (try dsimp only at hSw); go_simp; try with_reducible rfl)
        try simp only [Act.put, List.setIfInBounds_toArray, List.set_cons_zero, List.set_cons_succ]
        refine wpAnyH_take (i := 10) (oi := ({ dst := some 74, op := Op.binOp BinOp.sub 3 (Operand.tmp 71) (Operand.tmp 73) 3, type := 3, pos := "bytes.go:89", after := #[{ on := 7, ground := Ground.data }, { on := 9, ground := Ground.data }], guard := none } : Oper)) (v := ?v3x10) rfl (by kernel_rfl) (by kernel_rfl) (by kernel_rfl) (fun _ _ _ h => h) (Or.inl ⟨by rfl, ?hy3x10⟩) hHeld ?_
        case hy3x10 => ((intro w hSw); (try dsimp only at hSw); go_simp; try with_reducible rfl)
        try simp only [Act.put, List.setIfInBounds_toArray, List.set_cons_zero, List.set_cons_succ]
        refine wpAnyH_ready (rs := [11]) (by kernel_rfl) (by simp) ?_
        refine AllReadyH.cons (o := ({ dst := some 75, op := Op.buildSlice 41 2 #[(0, Operand.tmp 65), (1, Operand.tmp 74)], type := 41, pos := "bytes.go:89", after := #[{ on := 1, ground := Ground.data }, { on := 10, ground := Ground.data }], guard := none } : Oper)) rfl (fun K hK => ?_) AllReadyH.nil
        go_simp
        have hM2 := heap_alloc_lt (o := (.cells #[.int .i64 (kk), .int .i64 (tk - x.pc)] 3)) hHeld.1
        have hT2 := (World.cell?_alloc_lt wr.drew (.cells #[.int .i64 (kk), .int .i64 (tk - x.pc)] 3) ⟨b2, o2 + (k + 1), none⟩ hb2w).trans hHeld.2.2.2.2.1
        have hK2 := hHeld.2.2.2.2.2.alloc hbW (.cells #[.int .i64 (kk), .int .i64 (tk - x.pc)] 3)
        refine hK.out _ _ ⟨hM2, cells_of hM2 0, cells_of hM2 3, cells_of hM2 4, hT2, hK2⟩ (fun hHeld1 => ?_)
        clear hK K hHeld
        try simp only [Act.put, List.setIfInBounds_toArray, List.set_cons_zero, List.set_cons_succ]
        refine wpAnyH_ready (rs := [12]) (by kernel_rfl) (by simp) ?_
        refine AllReadyH.cons (o := ({ dst := some 76, op := Op.call { callee := Callee.value (Operand.func 49), args := #[Operand.tmp 64, Operand.const (Value.int IntKind.i64 2), Operand.tmp 75], argTypes := #[46, 3, 41] }, type := 46, pos := "bytes.go:89", after := #[{ on := 0, ground := Ground.data }, { on := 11, ground := Ground.data }], guard := none } : Oper)) rfl (fun K hK => ?_) AllReadyH.nil
        go_simp
        go_at_call 49
        refine (write_2 [kk, tk - x.pc] (by simp) wr.heap.size _ lk base (wr.drew.alloc (.cells #[.int .i64 (kk), .int .i64 (tk - x.pc)] 3)) (heap_new _ _) (OwnB.alloc (w := wr.drew) OR.out _) hlW (hbA _)).mono ?_
        rintro e w9 ⟨v9, rfl, hown9, hk9⟩
        try go_wp2_with fail
        have hM3 := hk9.other _ _ _ _ (by decide) hHeld1.1
        have hT3 := (hk9.below.cell (p := ⟨b2, o2 + (k + 1), none⟩) hb2b).trans hHeld1.2.2.2.2.1
        have hK3 := hHeld1.2.2.2.2.2.trans hk9
        refine hK.out _ _ ⟨hM3, cells_of hM3 0, cells_of hM3 3, cells_of hM3 4, hT3, hK3⟩ (fun hHeld2 => ?_)
        clear hK K hHeld1
        try simp only [Act.put, List.setIfInBounds_toArray, List.set_cons_zero, List.set_cons_succ]
        refine wpAnyH_take (i := 13) (oi := ({ dst := some 0, op := Op.assign (Operand.tmp 76), type := 46, pos := "bytes.go:89", after := #[{ on := 12, ground := Ground.data }, { on := 12, ground := Ground.chain }, { on := 0, ground := Ground.phase }, { on := 1, ground := Ground.phase }, { on := 2, ground := Ground.phase }, { on := 3, ground := Ground.phase }, { on := 4, ground := Ground.phase }, { on := 5, ground := Ground.phase }, { on := 6, ground := Ground.phase }, { on := 7, ground := Ground.phase }, { on := 8, ground := Ground.phase }, { on := 9, ground := Ground.phase }, { on := 10, ground := Ground.phase }, { on := 11, ground := Ground.phase }, { on := 12, ground := Ground.phase }], guard := none } : Oper)) (v := ?v3x13) rfl (by kernel_rfl) (by kernel_rfl) (by kernel_rfl) (fun _ _ _ h => h) (Or.inl ⟨by rfl, ?hy3x13⟩) hHeld2 ?_
        case hy3x13 => ((intro w hSw); (try dsimp only at hSw); go_simp; try with_reducible rfl)
        try simp only [Act.put, List.setIfInBounds_toArray, List.set_cons_zero, List.set_cons_succ]
        refine wpAnyH_done (by kernel_rfl) ?_ _
        have O9 := Lib.hid hown9
        have K9 := Lib.hid hK3
        have M9 := hM3
        clear hHeld2 hM2 hT2 hK2 hM3 hT3 hK3 hown9 hk9
        have OO := Lib.hid (show OwnB w9 base v9 (l2 ++ keysN x (k + 1)) by have := O9.out; rwa [HKN.out, ← HLK.out, List.append_assoc, ← keysN_succ] at this)
        clear O9 hwr hw1 hw3 hw4 hw5 t0c k0c MB
        obtain ⟨an, cn, rfl⟩ := OO.out.slice
        have HMN := Lib.hid M9
        clear M9
        go_wp2
        go_roundg (gk - 1)
        case measure => exact hgg
        case rel => exact ⟨k + 1, by go_num, by omega, OO.out, HMN.out, K9.out⟩
      · obtain rfl : k = x.keys.length := by omega
        have HE := Lib.hid (show l ++ encB x = l2 ++ keysN x x.keys.length by unfold encB tailB; rw [HF.out, HL2.out]; simp)
        clear MB
        go_wp2
        go_ret
        exact ⟨_, rfl, by rw [HE.out, HLK.out]; exact OR.out, KW.out⟩
  · -- a jump
    have hjm : x.to.length = 1 := by rw [FI.out.jm]; unfold jmpP; rw [HF.out]; rfl
    have hu := List.getElem?_eq_getElem (show 0 < x.to.length by omega)
    generalize x.to[0]'(by omega) = t0 at hu
    have HU := Lib.hid hu
    have hT1 := HTR.out.below HK1.out.below hBb
    obtain ⟨b2, o2, rfl, hb2B, t0c⟩ := hT1.at_ hu
    simp only [Nat.add_zero] at t0c
    have hbd := FI.out.tos t0 (List.mem_of_getElem? hu)
    have hpd := FI.out.pc
    have hlW : l1.length ≤ 100000000 := by omega
    have hbA : ∀ o, base ≤ (w1.drew.alloc o).heap.size := fun o => by show base ≤ (w1.alloc o).heap.size; simp; omega
    have hwr : IntKind.i64.wrap (t0 - x.pc) = t0 - x.pc := IntWalk.i64_in _ (by omega)
    have hb2b : b2 < base := by omega
    have hb2w : b2 < w1.heap.size := by omega
    have hto0 : (0 : Int) < (x.to.length : Int) := by omega
    have hto0n : 0 < x.to.length := by omega
    have KW := HK1
    have MB := HMB.out
    clear hu hT1 hjm
    go_wp2
    refine wp_region_held_drew (S := (fun w' => w'.heap[w.heap.size]? = some (.cells #[.int .i64 x.pc, .int .i64 x.op, .int .i64 x.n, .slice Ak x.keys.length ck, .slice (some ⟨b2, o2, none⟩) x.to.length ct] 43 (0, 0)) ∧ w'.cell? ⟨w.heap.size, 0, none⟩ = some (.int .i64 x.pc) ∧ w'.cell? ⟨w.heap.size, 3, none⟩ = some (.slice Ak x.keys.length ck) ∧ w'.cell? ⟨w.heap.size, 4, none⟩ = some (.slice (some ⟨b2, o2, none⟩) x.to.length ct) ∧ w'.cell? ⟨b2, o2, none⟩ = some (.int .i64 t0) ∧ Kept 5 base w w')) (by kernel_rfl) (⟨MB, cells_of MB 0, cells_of MB 3, cells_of MB 4, t0c, KW.out.drew⟩) (fun hHeld => ?_)
    refine wpAnyH_take (i := 0) (oi := ({ dst := some 31, op := Op.move (Operand.tmp 0), type := 46, pos := "bytes.go:85", after := #[], guard := none } : Oper)) (v := ?v1x0) rfl (by kernel_rfl) (by kernel_rfl) (by kernel_rfl) (fun _ _ _ h => h) (Or.inl ⟨by rfl, ?hy1x0⟩) hHeld ?_
    case hy1x0 => ((intro w hSw); (try dsimp only at hSw); go_simp; try with_reducible rfl)
    try simp only [Act.put, List.setIfInBounds_toArray, List.set_cons_zero, List.set_cons_succ]
    refine wpAnyH_take (i := 1) (oi := ({ dst := some 32, op := Op.fieldAddr 43 (Operand.tmp 3) 4, type := 0, pos := "bytes.go:85", after := #[], guard := none } : Oper)) (v := ?v1x1) rfl (by kernel_rfl) (by kernel_rfl) (by kernel_rfl) (fun _ _ _ h => h) (Or.inl ⟨by rfl, ?hy1x1⟩) hHeld ?_
    case hy1x1 => ((intro w hSw); (try dsimp only at hSw); go_simp; try with_reducible rfl)
    try simp only [Act.put, List.setIfInBounds_toArray, List.set_cons_zero, List.set_cons_succ]
    refine wpAnyH_take (i := 2) (oi := ({ dst := some 33, op := Op.load 41 (Operand.tmp 32), type := 41, pos := "bytes.go:85", after := #[{ on := 1, ground := Ground.data }], guard := none } : Oper)) (v := ?v1x2) rfl (by kernel_rfl) (by kernel_rfl) (by kernel_rfl) (fun _ _ _ h => h) (Or.inl ⟨by rfl, ?hy1x2⟩) hHeld ?_
    case hy1x2 => ((intro w hSw); (try dsimp only at hSw); go_simp; try with_reducible rfl)
    try simp only [Act.put, List.setIfInBounds_toArray, List.set_cons_zero, List.set_cons_succ]
    refine wpAnyH_take (i := 3) (oi := ({ dst := some 34, op := Op.indexAddr 41 (Operand.tmp 33) (Operand.const (Value.int IntKind.i64 0)), type := 0, pos := "bytes.go:85", after := #[{ on := 2, ground := Ground.data }], guard := none } : Oper)) (v := ?v1x3) rfl (by kernel_rfl) (by kernel_rfl) (by kernel_rfl) (fun _ _ _ h => h) (Or.inl ⟨by rfl, ?hy1x3⟩) hHeld ?_
    case hy1x3 => ((intro w hSw); (try dsimp only at hSw); go_simp; try with_reducible rfl)
    try simp only [Act.put, List.setIfInBounds_toArray, List.set_cons_zero, List.set_cons_succ]
    refine wpAnyH_take (i := 4) (oi := ({ dst := some 35, op := Op.load 3 (Operand.tmp 34), type := 3, pos := "bytes.go:85", after := #[{ on := 3, ground := Ground.data }], guard := none } : Oper)) (v := ?v1x4) rfl (by kernel_rfl) (by kernel_rfl) (by kernel_rfl) (fun _ _ _ h => h) (Or.inl ⟨by rfl, ?hy1x4⟩) hHeld ?_
    case hy1x4 => ((intro w hSw); (try dsimp only at hSw); go_simp; try with_reducible rfl)
    try simp only [Act.put, List.setIfInBounds_toArray, List.set_cons_zero, List.set_cons_succ]
    refine wpAnyH_take (i := 5) (oi := ({ dst := some 36, op := Op.fieldAddr 43 (Operand.tmp 3) 0, type := 0, pos := "bytes.go:85", after := #[], guard := none } : Oper)) (v := ?v1x5) rfl (by kernel_rfl) (by kernel_rfl) (by kernel_rfl) (fun _ _ _ h => h) (Or.inl ⟨by rfl, ?hy1x5⟩) hHeld ?_
    case hy1x5 => ((intro w hSw); (try dsimp only at hSw); go_simp; try with_reducible rfl)
    try simp only [Act.put, List.setIfInBounds_toArray, List.set_cons_zero, List.set_cons_succ]
    refine wpAnyH_take (i := 6) (oi := ({ dst := some 37, op := Op.load 3 (Operand.tmp 36), type := 3, pos := "bytes.go:85", after := #[{ on := 5, ground := Ground.data }], guard := none } : Oper)) (v := ?v1x6) rfl (by kernel_rfl) (by kernel_rfl) (by kernel_rfl) (fun _ _ _ h => h) (Or.inl ⟨by rfl, ?hy1x6⟩) hHeld ?_
    case hy1x6 => ((intro w hSw); (try dsimp only at hSw); go_simp; try with_reducible rfl)
    try simp only [Act.put, List.setIfInBounds_toArray, List.set_cons_zero, List.set_cons_succ]
    refine wpAnyH_take (i := 7) (oi := ({ dst := some 38, op := Op.binOp BinOp.sub 3 (Operand.tmp 35) (Operand.tmp 37) 3, type := 3, pos := "bytes.go:85", after := #[{ on := 4, ground := Ground.data }, { on := 6, ground := Ground.data }], guard := none } : Oper)) (v := ?v1x7) rfl (by kernel_rfl) (by kernel_rfl) (by kernel_rfl) (fun _ _ _ h => h) (Or.inl ⟨by rfl, ?hy1x7⟩) hHeld ?_
    case hy1x7 => ((intro w hSw); (try dsimp only at hSw); go_simp; try with_reducible rfl)
    try simp only [Act.put, List.setIfInBounds_toArray, List.set_cons_zero, List.set_cons_succ]
    refine wpAnyH_ready (rs := [8]) (by kernel_rfl) (by simp) ?_
    refine AllReadyH.cons (o := ({ dst := some 39, op := Op.buildSlice 41 1 #[(0, Operand.tmp 38)], type := 41, pos := "bytes.go:85", after := #[{ on := 7, ground := Ground.data }], guard := none } : Oper)) rfl (fun K hK => ?_) AllReadyH.nil
    go_simp
    have hM2 := heap_alloc_lt (o := (.cells #[.int .i64 (t0 - x.pc)] 3)) hHeld.1
    have hT2 := (World.cell?_alloc_lt w1.drew (.cells #[.int .i64 (t0 - x.pc)] 3) ⟨b2, o2, none⟩ hb2w).trans hHeld.2.2.2.2.1
    have hK2 := hHeld.2.2.2.2.2.alloc hbW (.cells #[.int .i64 (t0 - x.pc)] 3)
    refine hK.out _ _ ⟨hM2, cells_of hM2 0, cells_of hM2 3, cells_of hM2 4, hT2, hK2⟩ (fun hHeld1 => ?_)
    clear hK K hHeld
    try simp only [Act.put, List.setIfInBounds_toArray, List.set_cons_zero, List.set_cons_succ]
    refine wpAnyH_ready (rs := [9]) (by kernel_rfl) (by simp) ?_
    refine AllReadyH.cons (o := ({ dst := some 40, op := Op.call { callee := Callee.value (Operand.func 49), args := #[Operand.tmp 31, Operand.const (Value.int IntKind.i64 2), Operand.tmp 39], argTypes := #[46, 3, 41] }, type := 46, pos := "bytes.go:85", after := #[{ on := 0, ground := Ground.data }, { on := 8, ground := Ground.data }], guard := none } : Oper)) rfl (fun K hK => ?_) AllReadyH.nil
    go_simp
    go_at_call 49
    refine (write_2 [t0 - x.pc] (by simp) w1.heap.size _ l1 base (w1.drew.alloc (.cells #[.int .i64 (t0 - x.pc)] 3)) (heap_new _ _) (OwnB.alloc (w := w1.drew) HO1.out _) hlW (hbA _)).mono ?_
    rintro e w9 ⟨v9, rfl, hown9, hk9⟩
    try go_wp2_with fail
    have hM3 := hk9.other _ _ _ _ (by decide) hHeld1.1
    have hT3 := (hk9.below.cell (p := ⟨b2, o2, none⟩) hb2b).trans hHeld1.2.2.2.2.1
    have hK3 := hHeld1.2.2.2.2.2.trans hk9
    refine hK.out _ _ ⟨hM3, cells_of hM3 0, cells_of hM3 3, cells_of hM3 4, hT3, hK3⟩ (fun hHeld2 => ?_)
    clear hK K hHeld1
    try simp only [Act.put, List.setIfInBounds_toArray, List.set_cons_zero, List.set_cons_succ]
    refine wpAnyH_take (i := 10) (oi := ({ dst := some 0, op := Op.assign (Operand.tmp 40), type := 46, pos := "bytes.go:85", after := #[{ on := 9, ground := Ground.data }, { on := 9, ground := Ground.chain }, { on := 0, ground := Ground.phase }, { on := 1, ground := Ground.phase }, { on := 2, ground := Ground.phase }, { on := 3, ground := Ground.phase }, { on := 4, ground := Ground.phase }, { on := 5, ground := Ground.phase }, { on := 6, ground := Ground.phase }, { on := 7, ground := Ground.phase }, { on := 8, ground := Ground.phase }, { on := 9, ground := Ground.phase }], guard := none } : Oper)) (v := ?v1x10) rfl (by kernel_rfl) (by kernel_rfl) (by kernel_rfl) (fun _ _ _ h => h) (Or.inl ⟨by rfl, ?hy1x10⟩) hHeld2 ?_
    case hy1x10 => ((intro w hSw); (try dsimp only at hSw); go_simp; try with_reducible rfl)
    try simp only [Act.put, List.setIfInBounds_toArray, List.set_cons_zero, List.set_cons_succ]
    refine wpAnyH_done (by kernel_rfl) ?_ _
    have O9 := Lib.hid hown9
    have K9 := Lib.hid hK3
    have M9 := hM3
    clear hHeld2 hM2 hT2 hK2 hM3 hT3 hK3 hown9 hk9
    have HE := Lib.hid (show l ++ encB x = l1 ++ numsN 2 [t0 - x.pc] by unfold encB tailB; rw [HF.out, nums_1, ← HL1.out]; simp [List.getD, HU.out])
    clear MB t0c
    go_wp2
    go_ret
    exact ⟨_, rfl, by rw [HE.out]; exact O9.out, K9.out⟩
  · have HE := Lib.hid (show l ++ encB x = l1 ++ numsN 1 [x.n] by unfold encB tailB; rw [HF.out, nums_1, ← HL1.out]; simp)
    go_wp2_with fail
    refine (write_1 [x.n] (by simp) w1.heap.size _ l1 base _ (heap_new _ _) (HO1.out.alloc _) (by omega) (by simp; omega)).mono ?_
    rintro e w9 ⟨v9, rfl, hown9, hk9⟩
    have O9 := Lib.hid hown9
    have K9 := Lib.hid ((HK1.out.alloc hbW _).trans hk9)
    clear hown9 hk9
    go_wp2
    go_ret
    exact ⟨_, rfl, by rw [HE.out]; exact O9.out, K9.out⟩
  · have HE := Lib.hid (show l ++ encB x = l1 ++ numsN 2 [x.n] by unfold encB tailB; rw [HF.out, nums_1, ← HL1.out]; simp)
    go_wp2_with fail
    refine (write_2 [x.n] (by simp) w1.heap.size _ l1 base _ (heap_new _ _) (HO1.out.alloc _) (by omega) (by simp; omega)).mono ?_
    rintro e w9 ⟨v9, rfl, hown9, hk9⟩
    have O9 := Lib.hid hown9
    have K9 := Lib.hid ((HK1.out.alloc hbW _).trans hk9)
    clear hown9 hk9
    go_wp2
    go_ret
    exact ⟨_, rfl, by rw [HE.out]; exact O9.out, K9.out⟩
  · have HE := Lib.hid (show l ++ encB x = l1 by unfold encB tailB; rw [HF.out, ← HL1.out]; simp)
    go_wp2
    go_ret
    exact ⟨_, rfl, by rw [HE.out]; exact HO1.out, HK1.out⟩
end Go.Proofs.YtjdaaecbnhcoaaaDoor
