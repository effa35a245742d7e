/-
  CUT and joined from the texts of this seat: Hu
-/
import Derived.Test.YtmaknddlgppinaaGreatDoorZ01
import Derived.Test.YtmaknddlgppinaaGreatDoorZ10
import Derived.Test.YtmaknddlgppinaaGreatDoorZ27
import Derived.Deep.RegionHeld3
set_option linter.unusedVariables false
set_option linter.unusedSimpArgs false
namespace Go.Proofs.YtmaknddlgppinaaGreatDoor
open Go.RowKit
/-- A call as one step of a region that draws. -/
theorem hstep_call {P : Program} {ops : Array Oper} {w : World} {o : Oper} {a : Act} {K : Act → World → Prop} {Q : Exit → Act → World → Prop} {E : Prop} (hgd : o.guard = none) (f : FuncId) (he : ∀ args w, (callFunc f args).run P w = .ok (.enter f args) w) (os : Array Operand) (ts : Array TypeId)
  (ho : o.op = .call { callee := .value (.func f), args := os, argTypes := ts }) (vals : Array Value) (hv : os.toList.map a.eval = vals.toList) {R : Ending → World → Prop} (hc : Calls P f vals w R)
  (h : ∀ e w', R e w' → ∃ v, e = .returned v ∧ K (a.put o.dst v) w') :
  if Region.wanted o (yielded ops a.tmps) = true then Oper.wp P o a w K Q else E := by
 have hw : Region.wanted o (yielded ops a.tmps) = true := by simp [Region.wanted, hgd]
 rw [if_pos hw]
 have hv2 : os.map a.eval = vals := by apply Array.toList_inj.1; rw [Array.toList_map]; exact hv
 subst hv2
 unfold Oper.wp
 have : (execOp a.eval o).run P w = .ok (.enter f (os.map a.eval)) w := by
  have e : a.eval (.func f) = .func (.func f) #[] #[] := rfl
  simp [execOp, ho, resolve, e, Deferred.ofValue, invoke, he]
 rw [this, Oper.upon_enter]
 refine hc.mono fun e w' hr => ?_
 obtain ⟨v, rfl, hk⟩ := h e w' hr
 exact hk
set_option maxRecDepth 1000000 in
set_option maxHeartbeats 3200000 in
theorem className_any {B : Nat} (f : Fl) (v : Value) (w : World) (hf : FileAt B w v f) (hB : B ≤ w.heap.size) (i : Int) (hsz : (classP f.pool i).size ≤ 1000000) :
  Calls Tryz.prog 121 #[v, .int .i64 i] w fun e w' => e = .returned (.string (classP f.pool i)) ∧ Below w.heap.size w w' := by
 obtain ⟨Ap, cp, Ai, ci, Af, cf, Am, cm, rfl, hfi⟩ := id hf
 have HC := Lib.hid (fun (o : Obj) => ClassName_any (B := B) f _ (w.alloc o) (hf.alloc hB o) (by simp; omega) i)
 have HS := Lib.hid (fun W => stringsClone_any (classP f.pool i) W (by omega))
 clear hf hfi
 go_enter Tryz.func121, Tryz.ntmps121
 go_wp2_with fail
 refine (HC.out _).mono ?_
 rintro e w1 ⟨rfl, hb1⟩
 have HB1 := Lib.hid hb1
 clear hb1
 go_wp2_with fail
 refine (HS.out _).mono ?_
 rintro e w2 ⟨rfl, hb2⟩
 have HB2 := Lib.hid hb2
 clear hb2
 go_wp2
 go_ret
 exact ⟨rfl, (((Below.refl w.heap.size w).alloc (Nat.le_refl _) _).trans (HB1.out.mono (by simp))).trans (HB2.out.mono (by have := HB1.out.size; simp at this; omega))⟩
theorem alloc_facts {W0 wi : World} {cs : Array Value} {t : TypeId} (hb : Below (W0.alloc (.cells cs t)).heap.size (W0.alloc (.cells cs t)) wi) : wi.heap[W0.heap.size]? = some (.cells cs t (0, 0)) :=
 (hb.block _ (by simp)).trans (hheap_new W0 _)
theorem alloc_facts0 {W0 wi : World} {cs : Array Value} {t : TypeId} (hb : Below (W0.alloc (.cells cs t)).drew.heap.size (W0.alloc (.cells cs t)).drew wi) : wi.heap[W0.heap.size]? = some (.cells cs t (0, 0)) :=
 (hb.block _ (by show W0.heap.size < (W0.alloc _).heap.size; simp)).trans (hheap_new W0 _)
theorem set7 {w : World} {b : Nat} {x0 x1 x2 x3 x4 x5 x6 : Value} {t : TypeId} {m : Nat × Nat} (h : w.heap[b]? = some (.cells #[x0, x1, x2, x3, x4, x5, x6] t m)) (v0 v1 v2 v3 v4 v5 v6 : Value) :
  (((((((w.setCell ⟨b, 0, none⟩ v0).setCell ⟨b, 1, none⟩ v1).setCell ⟨b, 2, none⟩ v2).setCell ⟨b, 3, none⟩ v3).setCell ⟨b, 4, none⟩ v4).setCell ⟨b, 5, none⟩ v5).setCell ⟨b, 6, none⟩ v6).heap[b]? = some (.cells #[v0, v1, v2, v3, v4, v5, v6] t m) := by
 have h1 : (w.setCell ⟨b, 0, none⟩ v0).heap[b]? = some (.cells #[v0, x1, x2, x3, x4, x5, x6] t m) := by rw [heap_set_eq h]; rfl
 generalize w.setCell ⟨b, 0, none⟩ v0 = W0 at *
 have h2 : (W0.setCell ⟨b, 1, none⟩ v1).heap[b]? = some (.cells #[v0, v1, x2, x3, x4, x5, x6] t m) := by rw [heap_set_eq h1]; rfl
 generalize W0.setCell ⟨b, 1, none⟩ v1 = W1 at *
 have h3 : (W1.setCell ⟨b, 2, none⟩ v2).heap[b]? = some (.cells #[v0, v1, v2, x3, x4, x5, x6] t m) := by rw [heap_set_eq h2]; rfl
 generalize W1.setCell ⟨b, 2, none⟩ v2 = W2 at *
 have h4 : (W2.setCell ⟨b, 3, none⟩ v3).heap[b]? = some (.cells #[v0, v1, v2, v3, x4, x5, x6] t m) := by rw [heap_set_eq h3]; rfl
 generalize W2.setCell ⟨b, 3, none⟩ v3 = W3 at *
 have h5 : (W3.setCell ⟨b, 4, none⟩ v4).heap[b]? = some (.cells #[v0, v1, v2, v3, v4, x5, x6] t m) := by rw [heap_set_eq h4]; rfl
 generalize W3.setCell ⟨b, 4, none⟩ v4 = W4 at *
 have h6 : (W4.setCell ⟨b, 5, none⟩ v5).heap[b]? = some (.cells #[v0, v1, v2, v3, v4, v5, x6] t m) := by rw [heap_set_eq h5]; rfl
 generalize W4.setCell ⟨b, 5, none⟩ v5 = W5 at *
 rw [heap_set_eq h6]; rfl
theorem below7 {B b : Nat} {a w : World} (h : Below B a w) (hb : B ≤ b) (v0 v1 v2 v3 v4 v5 v6 : Value) :
  Below B a (((((((w.setCell ⟨b, 0, none⟩ v0).setCell ⟨b, 1, none⟩ v1).setCell ⟨b, 2, none⟩ v2).setCell ⟨b, 3, none⟩ v3).setCell ⟨b, 4, none⟩ v4).setCell ⟨b, 5, none⟩ v5).setCell ⟨b, 6, none⟩ v6) :=
 ((((((h.setCell hb v0).setCell hb v1).setCell hb v2).setCell hb v3).setCell hb v4).setCell hb v5).setCell hb v6
theorem keep_facts {W wi : World} {b : Nat} {cs : Array Value} {t : TypeId} (hb : Below W.heap.size W wi) (h : W.heap[b]? = some (.cells cs t (0, 0))) : wi.heap[b]? = some (.cells cs t (0, 0)) := (hb.block _ (lt_of_block h)).trans h
theorem results106 : Tryz.f106.results = #[ResultVar.cell 4 47] := by kernel_rfl
theorem und45 : Tryz.prog.underlying 45 = some (.slice 9) := by kernel_rfl
set_option maxRecDepth 1000000 in
set_option maxHeartbeats 6400000 in
theorem classOf_any {B : Nat} (f : Fl) (v : Value) (w : World) (hf : FileAt B w v f) (hB : B ≤ w.heap.size) (at_ : Int) (hfl : f.fl = 0 ∨ f.fl = 2 ∨ f.fl = 3) (hsz : ∀ i, (classP f.pool i).size ≤ 1000000) (hl : f.ifs.length ≤ 1000) :
    Calls Tryz.prog 106 #[v, .int .i64 at_] w fun e w' => ∃ ifn, e = .returned (.agg #[.string (classP f.pool f.this), .string (classP f.pool f.super), ifn, .bool (decide (f.fl = 3)), .bool (decide (f.fl ≠ 0)), .bool false, .int .i64 at_]) ∧
      OwnS w' w.heap.size ifn (f.ifs.map fun i => L (classP f.pool i)) ∧ Below w.heap.size w w' := by
  obtain ⟨Ap, cp, Ai, ci, Af, cf, Am, cm, rfl, hfi⟩ := id hf
  have hIfs := Lib.hid hfi.ifs
  have HF := Lib.hid hf
  have HCN := Lib.hid (fun (W : World) (hb : Below w.heap.size w W) (i : Int) => className_any (B := w.heap.size) f _ W ((hf.more hB).below hb (Nat.le_refl _)) hb.size i (hsz i))
  have HFL := Lib.hid hfl
  have HSZ := Lib.hid hsz
  clear hf hfi hfl hsz
  go_enter Tryz.func106, Tryz.ntmps106
  go_wp2
  obtain ⟨W0, hW0⟩ : ∃ W, W = (w.alloc (.cells #[.slice Ap f.pool.length cp, .int .i64 f.fl, .int .i64 f.this, .int .i64 f.super, .slice Ai f.ifs.length ci, .slice Af f.fds.length cf, .slice Am f.mts.length cm] 94)).alloc (.cells #[.string ⟨#[]⟩, .string ⟨#[]⟩, .slice none 0 0, .bool false, .bool false, .bool false, .int .i64 0] 47) := ⟨_, rfl⟩
  have bx : W0.heap[w.heap.size]? = some (.cells #[.slice Ap f.pool.length cp, .int .i64 f.fl, .int .i64 f.this, .int .i64 f.super, .slice Ai f.ifs.length ci, .slice Af f.fds.length cf, .slice Am f.mts.length cm] 94 (0, 0)) := by rw [hW0]; exact hheap_alloc_lt (hheap_new w _)
  have rx : W0.heap[w.heap.size + 1]? = some (.cells #[.string ⟨#[]⟩, .string ⟨#[]⟩, .slice none 0 0, .bool false, .bool false, .bool false, .int .i64 0] 47 (0, 0)) := by rw [hW0]; exact hheap_at _ _ _ (by simp)
  have hz0 : W0.heap.size = w.heap.size + 1 + 1 := by rw [hW0]; simp
  have hb0 : Below w.heap.size w W0 := by rw [hW0]; exact ((Below.refl w.heap.size w).alloc (Nat.le_refl _) _).alloc (by simp) _
  rw [← hW0]
  have HZ0 := Lib.hid hz0
  have HB0 := Lib.hid hb0
  have BX := Lib.hid bx
  have RX := Lib.hid rx
  have b0 := kcells_of bx 0
  have b1 := kcells_of bx 1
  have b2 := kcells_of bx 2
  have b3 := kcells_of bx 3
  have b4 := kcells_of bx 4
  have b5 := kcells_of bx 5
  have b6 := kcells_of bx 6
  simp only [List.getElem?_toArray, List.getElem?_cons_succ, List.getElem?_cons_zero] at b0 b1 b2 b3 b4 b5 b6
  have hlt := lt_of_block bx
  have CN := Lib.hid (fun W (hb : Below W0.heap.size W0 W) i => HCN.out W (HB0.out.trans (hb.mono (by rw [HZ0.out]; omega))) i)
  clear bx rx hW0 hz0 hb0
  go_cut [5] (fun v5 wx => ∃ bk, v5 = .pointer (some ⟨bk, 0, none⟩) ∧ W0.heap.size ≤ bk ∧ wx.heap[bk]? = some (.cells #[.string (classP f.pool f.this), .string (classP f.pool f.super), .slice none 0 0, .bool (bits BinOp.and IntKind.i64 f.fl 1 != 0), .bool (bits BinOp.and IntKind.i64 f.fl 2 != 0), .bool false, .int .i64 at_] 47 (0, 0)) ∧ Below W0.heap.size W0 wx)
  case first =>
    refine wp_region_held_drew (S := fun w' => Below W0.heap.size W0 w') (by kernel_rfl) (Below.refl _ _).drew (fun hS0 => ?_)
    refine wpAnyH_take (i := 0) (oi := _) (v := ?v1) rfl (by kernel_rfl) (by kernel_rfl) (by kernel_rfl) (fun _ _ _ h => h) (Or.inl ⟨by rfl, ?hy1⟩) hS0 ?_
    case hy1 => (intro V hSw; have e0 := qkeepc hSw hlt b0; have e1 := qkeepc hSw hlt b1; have e2 := qkeepc hSw hlt b2; have e3 := qkeepc hSw hlt b3; have e4 := qkeepc hSw hlt b4; have e5 := qkeepc hSw hlt b5; have e6 := qkeepc hSw hlt b6; go_simp; try with_reducible rfl)
    try simp only [pu0, puN, pu1, pu2, pu3]
    refine wpAnyH_take (i := 1) (oi := _) (v := ?v2) rfl (by kernel_rfl) (by kernel_rfl) (by kernel_rfl) (fun _ _ _ h => h) (Or.inl ⟨by rfl, ?hy2⟩) hS0 ?_
    case hy2 => (intro V hSw; have e0 := qkeepc hSw hlt b0; have e1 := qkeepc hSw hlt b1; have e2 := qkeepc hSw hlt b2; have e3 := qkeepc hSw hlt b3; have e4 := qkeepc hSw hlt b4; have e5 := qkeepc hSw hlt b5; have e6 := qkeepc hSw hlt b6; go_simp; try with_reducible rfl)
    try simp only [pu0, puN, pu1, pu2, pu3]
    refine wpAnyH_take (i := 2) (oi := _) (v := ?v3) rfl (by kernel_rfl) (by kernel_rfl) (by kernel_rfl) (fun _ _ _ h => h) (Or.inl ⟨by rfl, ?hy3⟩) hS0 ?_
    case hy3 => (intro V hSw; have e0 := qkeepc hSw hlt b0; have e1 := qkeepc hSw hlt b1; have e2 := qkeepc hSw hlt b2; have e3 := qkeepc hSw hlt b3; have e4 := qkeepc hSw hlt b4; have e5 := qkeepc hSw hlt b5; have e6 := qkeepc hSw hlt b6; go_simp; try with_reducible rfl)
    try simp only [pu0, puN, pu1, pu2, pu3]
    refine wpAnyH_take (i := 4) (oi := _) (v := ?v4) rfl (by kernel_rfl) (by kernel_rfl) (by kernel_rfl) (fun _ _ _ h => h) (Or.inl ⟨by rfl, ?hy4⟩) hS0 ?_
    case hy4 => (intro V hSw; have e0 := qkeepc hSw hlt b0; have e1 := qkeepc hSw hlt b1; have e2 := qkeepc hSw hlt b2; have e3 := qkeepc hSw hlt b3; have e4 := qkeepc hSw hlt b4; have e5 := qkeepc hSw hlt b5; have e6 := qkeepc hSw hlt b6; go_simp; try with_reducible rfl)
    try simp only [pu0, puN, pu1, pu2, pu3]
    refine wpAnyH_take (i := 5) (oi := _) (v := ?v5) rfl (by kernel_rfl) (by kernel_rfl) (by kernel_rfl) (fun _ _ _ h => h) (Or.inl ⟨by rfl, ?hy5⟩) hS0 ?_
    case hy5 => (intro V hSw; have e0 := qkeepc hSw hlt b0; have e1 := qkeepc hSw hlt b1; have e2 := qkeepc hSw hlt b2; have e3 := qkeepc hSw hlt b3; have e4 := qkeepc hSw hlt b4; have e5 := qkeepc hSw hlt b5; have e6 := qkeepc hSw hlt b6; go_simp; try with_reducible rfl)
    try simp only [pu0, puN, pu1, pu2, pu3]
    refine wpAnyH_take (i := 6) (oi := _) (v := ?v6) rfl (by kernel_rfl) (by kernel_rfl) (by kernel_rfl) (fun _ _ _ h => h) (Or.inl ⟨by rfl, ?hy6⟩) hS0 ?_
    case hy6 => (intro V hSw; have e0 := qkeepc hSw hlt b0; have e1 := qkeepc hSw hlt b1; have e2 := qkeepc hSw hlt b2; have e3 := qkeepc hSw hlt b3; have e4 := qkeepc hSw hlt b4; have e5 := qkeepc hSw hlt b5; have e6 := qkeepc hSw hlt b6; go_simp; try with_reducible rfl)
    try simp only [pu0, puN, pu1, pu2, pu3]
    refine wpAnyH_take (i := 8) (oi := _) (v := ?v7) rfl (by kernel_rfl) (by kernel_rfl) (by kernel_rfl) (fun _ _ _ h => h) (Or.inl ⟨by rfl, ?hy7⟩) hS0 ?_
    case hy7 => (intro V hSw; have e0 := qkeepc hSw hlt b0; have e1 := qkeepc hSw hlt b1; have e2 := qkeepc hSw hlt b2; have e3 := qkeepc hSw hlt b3; have e4 := qkeepc hSw hlt b4; have e5 := qkeepc hSw hlt b5; have e6 := qkeepc hSw hlt b6; go_simp; try with_reducible rfl)
    try simp only [pu0, puN, pu1, pu2, pu3]
    refine wpAnyH_take (i := 9) (oi := _) (v := ?v8) rfl (by kernel_rfl) (by kernel_rfl) (by kernel_rfl) (fun _ _ _ h => h) (Or.inl ⟨by rfl, ?hy8⟩) hS0 ?_
    case hy8 => (intro V hSw; have e0 := qkeepc hSw hlt b0; have e1 := qkeepc hSw hlt b1; have e2 := qkeepc hSw hlt b2; have e3 := qkeepc hSw hlt b3; have e4 := qkeepc hSw hlt b4; have e5 := qkeepc hSw hlt b5; have e6 := qkeepc hSw hlt b6; go_simp; try with_reducible rfl)
    try simp only [pu0, puN, pu1, pu2, pu3]
    refine wpAnyH_take (i := 10) (oi := _) (v := ?v9) rfl (by kernel_rfl) (by kernel_rfl) (by kernel_rfl) (fun _ _ _ h => h) (Or.inl ⟨by rfl, ?hy9⟩) hS0 ?_
    case hy9 => (intro V hSw; have e0 := qkeepc hSw hlt b0; have e1 := qkeepc hSw hlt b1; have e2 := qkeepc hSw hlt b2; have e3 := qkeepc hSw hlt b3; have e4 := qkeepc hSw hlt b4; have e5 := qkeepc hSw hlt b5; have e6 := qkeepc hSw hlt b6; go_simp; try with_reducible rfl)
    try simp only [pu0, puN, pu1, pu2, pu3]
    refine wpAnyH_take (i := 11) (oi := _) (v := ?v10) rfl (by kernel_rfl) (by kernel_rfl) (by kernel_rfl) (fun _ _ _ h => h) (Or.inl ⟨by rfl, ?hy10⟩) hS0 ?_
    case hy10 => (intro V hSw; have e0 := qkeepc hSw hlt b0; have e1 := qkeepc hSw hlt b1; have e2 := qkeepc hSw hlt b2; have e3 := qkeepc hSw hlt b3; have e4 := qkeepc hSw hlt b4; have e5 := qkeepc hSw hlt b5; have e6 := qkeepc hSw hlt b6; go_simp; try with_reducible rfl)
    try simp only [pu0, puN, pu1, pu2, pu3]
    refine wpAnyH_take (i := 12) (oi := _) (v := ?v11) rfl (by kernel_rfl) (by kernel_rfl) (by kernel_rfl) (fun _ _ _ h => h) (Or.inl ⟨by rfl, ?hy11⟩) hS0 ?_
    case hy11 => (intro V hSw; have e0 := qkeepc hSw hlt b0; have e1 := qkeepc hSw hlt b1; have e2 := qkeepc hSw hlt b2; have e3 := qkeepc hSw hlt b3; have e4 := qkeepc hSw hlt b4; have e5 := qkeepc hSw hlt b5; have e6 := qkeepc hSw hlt b6; go_simp; try with_reducible rfl)
    try simp only [pu0, puN, pu1, pu2, pu3]
    refine wpAnyH_take (i := 13) (oi := _) (v := ?v12) rfl (by kernel_rfl) (by kernel_rfl) (by kernel_rfl) (fun _ _ _ h => h) (Or.inl ⟨by rfl, ?hy12⟩) hS0 ?_
    case hy12 => (intro V hSw; have e0 := qkeepc hSw hlt b0; have e1 := qkeepc hSw hlt b1; have e2 := qkeepc hSw hlt b2; have e3 := qkeepc hSw hlt b3; have e4 := qkeepc hSw hlt b4; have e5 := qkeepc hSw hlt b5; have e6 := qkeepc hSw hlt b6; go_simp; try with_reducible rfl)
    try simp only [pu0, puN, pu1, pu2, pu3]
    refine wpAnyH_take (i := 14) (oi := _) (v := ?v13) rfl (by kernel_rfl) (by kernel_rfl) (by kernel_rfl) (fun _ _ _ h => h) (Or.inl ⟨by rfl, ?hy13⟩) hS0 ?_
    case hy13 => (intro V hSw; have e0 := qkeepc hSw hlt b0; have e1 := qkeepc hSw hlt b1; have e2 := qkeepc hSw hlt b2; have e3 := qkeepc hSw hlt b3; have e4 := qkeepc hSw hlt b4; have e5 := qkeepc hSw hlt b5; have e6 := qkeepc hSw hlt b6; go_simp; try with_reducible rfl)
    try simp only [pu0, puN, pu1, pu2, pu3]
    refine wpAnyH_take (i := 15) (oi := _) (v := ?v14) rfl (by kernel_rfl) (by kernel_rfl) (by kernel_rfl) (fun _ _ _ h => h) (Or.inl ⟨by rfl, ?hy14⟩) hS0 ?_
    case hy14 => (intro V hSw; have e0 := qkeepc hSw hlt b0; have e1 := qkeepc hSw hlt b1; have e2 := qkeepc hSw hlt b2; have e3 := qkeepc hSw hlt b3; have e4 := qkeepc hSw hlt b4; have e5 := qkeepc hSw hlt b5; have e6 := qkeepc hSw hlt b6; go_simp; try with_reducible rfl)
    try simp only [pu0, puN, pu1, pu2, pu3]
    refine wpAnyH_take (i := 16) (oi := _) (v := ?v15) rfl (by kernel_rfl) (by kernel_rfl) (by kernel_rfl) (fun _ _ _ h => h) (Or.inl ⟨by rfl, ?hy15⟩) hS0 ?_
    case hy15 => (intro V hSw; have e0 := qkeepc hSw hlt b0; have e1 := qkeepc hSw hlt b1; have e2 := qkeepc hSw hlt b2; have e3 := qkeepc hSw hlt b3; have e4 := qkeepc hSw hlt b4; have e5 := qkeepc hSw hlt b5; have e6 := qkeepc hSw hlt b6; go_simp; try with_reducible rfl)
    try simp only [pu0, puN, pu1, pu2, pu3]
    refine wpAnyH_ready (rs := [3, 18]) (by kernel_rfl) (by simp) ?_
    refine (AllReadyH.cons (o := _) rfl (fun K hK => ?_) (AllReadyH.cons (o := _) rfl (fun K hK => ?_) AllReadyH.nil))
    · go_simp
      go_at_call 121
      refine (CN.out _ hS0 _).mono ?_
      rintro e wi1 ⟨rfl, hb1⟩
      try go_wp2_with fail
      refine hK.out _ _ (Below.hlink hS0 hb1) (fun hS1 => ?_)
      clear hK K
      try simp only [pu0, puN, pu1, pu2, pu3]
      refine wpAnyH_ready (rs := [7, 18]) (by kernel_rfl) (by simp) ?_
      refine (AllReadyH.cons (o := _) rfl (fun K hK => ?_) (AllReadyH.cons (o := _) rfl (fun K hK => ?_) AllReadyH.nil))
      · go_simp
        go_at_call 121
        refine (CN.out _ hS1 _).mono ?_
        rintro e wi2 ⟨rfl, hb2⟩
        try go_wp2_with fail
        refine hK.out _ _ (Below.hlink hS1 hb2) (fun hS2 => ?_)
        clear hK K
        try simp only [pu0, puN, pu1, pu2, pu3]
        refine wpAnyH_take (i := 17) (oi := _) (v := ?v16) rfl (by kernel_rfl) (by kernel_rfl) (by kernel_rfl) (fun _ _ _ h => h) (Or.inl ⟨by rfl, ?hy16⟩) hS2 ?_
        case hy16 => (intro V hSw; go_simp; try with_reducible rfl)
        try simp only [pu0, puN, pu1, pu2, pu3]
        refine wpAnyH_ready (rs := [18]) (by kernel_rfl) (by simp) ?_
        refine (AllReadyH.cons (o := _) rfl (fun K hK => ?_) AllReadyH.nil)
        go_simp
        refine hK.out _ _ (Below.alloc hS2 (Below.size hS2) _) (fun hS3 => ?_)
        clear hK K
        try simp only [pu0, puN, pu1, pu2, pu3]
        refine wpAnyH_ready (rs := [19]) (by kernel_rfl) (by simp) ?_
        refine (AllReadyH.cons (o := _) rfl (fun K hK => ?_) AllReadyH.nil)
        go_simp
        refine hK.out _ _ (Below.alloc hS2 hS2.size _) (fun hS4 => ?_)
        clear hK K
        refine wpAnyH_done (by kernel_rfl) ?_ _
        go_wp2
        go_meet
        case rel => exact ⟨_, rfl, hS2.size, hheap_new _ _, hS4⟩
      · go_simp
        refine hK.out _ _ (Below.alloc hS1 (Below.size hS1) _) (fun hS2 => ?_)
        clear hK K
        try simp only [pu0, puN, pu1, pu2, pu3]
        refine wpAnyH_ready (rs := [7]) (by kernel_rfl) (by simp) ?_
        refine (AllReadyH.cons (o := _) rfl (fun K hK => ?_) AllReadyH.nil)
        go_simp
        go_at_call 121
        refine (CN.out _ hS2 _).mono ?_
        rintro e wi2 ⟨rfl, hb2⟩
        have nb := alloc_facts hb2
        have n0 := kcells_of nb 0
        have n1 := kcells_of nb 1
        have n2 := kcells_of nb 2
        have n3 := kcells_of nb 3
        have n4 := kcells_of nb 4
        have n5 := kcells_of nb 5
        have n6 := kcells_of nb 6
        have fz := kfree_of nb
        simp only [List.getElem?_toArray, List.getElem?_cons_succ, List.getElem?_cons_zero] at n0 n1 n2 n3 n4 n5 n6
        try go_wp2_with fail
        refine hK.out _ _ (Below.hlink hS2 hb2) (fun hS3 => ?_)
        clear hK K
        try simp only [pu0, puN, pu1, pu2, pu3]
        refine wpAnyH_take (i := 17) (oi := _) (v := ?v17) rfl (by kernel_rfl) (by kernel_rfl) (by kernel_rfl) (fun _ _ _ h => h) (Or.inl ⟨by rfl, ?hy17⟩) hS3 ?_
        case hy17 => (intro V hSw; go_simp; try with_reducible rfl)
        try simp only [pu0, puN, pu1, pu2, pu3]
        refine wpAnyH_ready (rs := [19]) (by kernel_rfl) (by simp) ?_
        refine (AllReadyH.cons (o := _) rfl (fun K hK => ?_) AllReadyH.nil)
        go_simp
        have hS5 := below7 hS3 hS1.size (b := wi1.heap.size)
        refine hK.out _ _ (hS5 _ _ _ _ _ _ _) (fun hS4 => ?_)
        clear hK K
        refine wpAnyH_done (by kernel_rfl) ?_ _
        go_wp2
        go_meet
        case rel => exact ⟨_, rfl, hS1.size, set7 nb _ _ _ _ _ _ _, hS4⟩
    · go_simp
      refine hK.out _ _ (Below.alloc hS0 (Below.size hS0) _) (fun hS1 => ?_)
      clear hK K
      try simp only [pu0, puN, pu1, pu2, pu3]
      refine wpAnyH_ready (rs := [3]) (by kernel_rfl) (by simp) ?_
      refine (AllReadyH.cons (o := _) rfl (fun K hK => ?_) AllReadyH.nil)
      go_simp
      go_at_call 121
      refine (CN.out _ hS1 _).mono ?_
      rintro e wi1 ⟨rfl, hb1⟩
      have nb := alloc_facts0 hb1
      try go_wp2_with fail
      refine hK.out _ _ (Below.hlink hS1 hb1) (fun hS2 => ?_)
      clear hK K
      try simp only [pu0, puN, pu1, pu2, pu3]
      refine wpAnyH_ready (rs := [7]) (by kernel_rfl) (by simp) ?_
      refine (AllReadyH.cons (o := _) rfl (fun K hK => ?_) AllReadyH.nil)
      go_simp
      go_at_call 121
      refine (CN.out _ hS2 _).mono ?_
      rintro e wi2 ⟨rfl, hb2⟩
      have nb := keep_facts hb2 nb
      have n0 := kcells_of nb 0
      have n1 := kcells_of nb 1
      have n2 := kcells_of nb 2
      have n3 := kcells_of nb 3
      have n4 := kcells_of nb 4
      have n5 := kcells_of nb 5
      have n6 := kcells_of nb 6
      have fz := kfree_of nb
      simp only [List.getElem?_toArray, List.getElem?_cons_succ, List.getElem?_cons_zero] at n0 n1 n2 n3 n4 n5 n6
      try go_wp2_with fail
      refine hK.out _ _ (Below.hlink hS2 hb2) (fun hS3 => ?_)
      clear hK K
      try simp only [pu0, puN, pu1, pu2, pu3]
      refine wpAnyH_take (i := 17) (oi := _) (v := ?v18) rfl (by kernel_rfl) (by kernel_rfl) (by kernel_rfl) (fun _ _ _ h => h) (Or.inl ⟨by rfl, ?hy18⟩) hS3 ?_
      case hy18 => (intro V hSw; go_simp; try with_reducible rfl)
      try simp only [pu0, puN, pu1, pu2, pu3]
      refine wpAnyH_ready (rs := [19]) (by kernel_rfl) (by simp) ?_
      refine (AllReadyH.cons (o := _) rfl (fun K hK => ?_) AllReadyH.nil)
      go_simp
      have hS5 := below7 hS3 (Nat.le_refl _) (b := W0.heap.size)
      refine hK.out _ _ (hS5 _ _ _ _ _ _ _) (fun hS4 => ?_)
      clear hK K
      refine wpAnyH_done (by kernel_rfl) ?_ _
      go_wp2
      go_meet
      case rel => exact ⟨_, rfl, Nat.le_refl _, set7 nb _ _ _ _ _ _ _, hS4⟩
  case rest =>
    obtain ⟨bk, rfl, hge, hcls, hbel⟩ := hcut
    obtain ⟨F1, hF1⟩ : ∃ x, x = (bits BinOp.and IntKind.i64 f.fl 1 != 0) := ⟨_, rfl⟩
    obtain ⟨F2, hF2⟩ : ∃ x, x = (bits BinOp.and IntKind.i64 f.fl 2 != 0) := ⟨_, rfl⟩
    rw [← hF1, ← hF2] at hcls
    have HF1 := Lib.hid hF1
    have HF2 := Lib.hid hF2
    have HCLS := Lib.hid hcls
    have HBEL := Lib.hid hbel
    obtain ⟨i0, hi0, hz0, hz1, hz2⟩ : ∃ i, Tryz.prog.info? 9 = some i ∧ i.zero = some (.string ⟨#[]⟩) ∧ i.size = 1 ∧ i.bytes = 16 := info_parts (by kernel_rfl)
    have e4 := qkeepc hbel hlt b4
    clear hcls hbel hF1 hF2
    go_wp2
    go_loopg [29] f.ifs.length (fun gk iv wx => ∃ (j : Nat) (v : Value), iv = .int .i64 j ∧ j + gk = f.ifs.length ∧ wx.heap[bk]? = some (.cells #[.string (classP f.pool f.this), .string (classP f.pool f.super), v, .bool F1, .bool F2, .bool false, .int .i64 at_] 47 (0, 0)) ∧ OwnS wx W0.heap.size v ((f.ifs.take j).map fun i => L (classP f.pool i)) ∧ Below W0.heap.size W0 wx)
    case atStart => exact ⟨0, _, rfl, by omega, HCLS.out, OwnS.nil _ _, HBEL.out⟩
    case round =>
      obtain ⟨j, v, rfl, hjg, hcl, hown, hbw⟩ := hrel
      obtain ⟨ss, hss, hssz, howr⟩ := id hown
      have hssl : ss.length = j := by have := congrArg List.length hss; simp at this; omega
      rw [hssl] at howr
      obtain ⟨a9, cp9, rfl⟩ := hown_form howr
      have HCL := Lib.hid hcl
      have HOW := Lib.hid hown
      have HBW := Lib.hid hbw
      have HSS := Lib.hid hss
      have HSSZ := Lib.hid hssz
      have OWR := Lib.hid howr
      clear hss hssz howr hown
      by_cases hj : j < f.ifs.length
      · have hgg : gk - 1 < gk := by omega
        have hx := List.getElem?_eq_getElem hj
        generalize f.ifs[j] = x at hx
        obtain ⟨b, ob, rfl, hbB, cx⟩ := hIfs.out.at_ hx
        have cx' : wr.cell? ⟨b, ob + j, none⟩ = some (.int .i64 x) := by
          rw [← cx]
          exact ((hbw.mono (by rw [HZ0.out]; omega : w.heap.size ≤ _)).cell (p := ⟨b, ob + j, none⟩) (by show b < w.heap.size; omega)).trans (HB0.out.cell (p := ⟨b, ob + j, none⟩) (by show b < w.heap.size; omega))
        have HX := Lib.hid hx
        clear hx cx hcl hbw
        have c2 : wr.cell? ⟨bk, 2, none⟩ = some (.slice a9 j cp9) := by rw [kcells_of HCL.out]; rfl
        have f2 : wr.frozen? ⟨bk, 2, none⟩ = false := kfree_of HCL.out 2
        have hbl : bk < wr.heap.size := lt_of_block HCL.out
        have e0 := qkeepc HBW.out hlt b0
        have e1 := qkeepc HBW.out hlt b1
        have e2 := qkeepc HBW.out hlt b2
        have e3 := qkeepc HBW.out hlt b3
        have e5 := qkeepc HBW.out hlt b5
        have e6 := qkeepc HBW.out hlt b6
        have e4' := qkeepc HBW.out hlt b4
        have hszw := HBW.out.size
        go_wp2
        go_region_law (first
          | (refine hstep_call rfl 121 (enters_of Tryz.func121 (by kernel_rfl) rfl) #[.tmp 35, .tmp 36] #[94, 3] rfl #[.agg #[.slice Ap f.pool.length cp, .int .i64 f.fl, .int .i64 f.this, .int .i64 f.super, .slice (some ⟨b, ob, none⟩) f.ifs.length ci, .slice Af f.fds.length cf, .slice Am f.mts.length cm], .int .i64 x] (by rfl) (CN.out wr.drew HBW.out.drew x) ?_
             rintro e wi ⟨rfl, hb⟩
             have g2 : wi.cell? ⟨bk, 2, none⟩ = some (.slice a9 j cp9) := qkeepc hb hbl c2
             have hbl2 : bk < wi.heap.size := Nat.lt_of_lt_of_le hbl hb.size
             have g2a : ∀ o, (wi.alloc o).cell? ⟨bk, 2, none⟩ = some (.slice a9 j cp9) := fun o => (World.cell?_alloc_lt _ _ _ hbl2).trans g2
             have hszi := hb.size
             have HBI := Lib.hid hb
             refine ⟨_, rfl, ?_⟩)
          | (refine hstep_append_own2 rfl (.tmp 34) (.tmp 38) 45 rfl W0.heap.size 9 i0 (.string ⟨#[]⟩) 1 16 und45 hi0 hz0 hz1 hz2 rfl (by decide) (.slice a9 j cp9) j _ rfl (World.ownsRow.alloc (hown_below (w := wr.drew) OWR.out hb) _) ⟨_, 0, none⟩ 1 1 [.string (classP f.pool x)] rfl rfl (knew_at _ [.string (classP f.pool x)] 9 _ (by simp)) (fun u hu => by simp at hu; subst hu; rfl) (by unfold maxLen; omega) (by omega) (by simp; omega) ?_
             intro v3 w3 own3 hg3 hm3
             have hclw := (HBI.out.block bk hbl).trans HCL.out
             have T3 := grown_block hg3 (hheap_alloc_lt hclw) (hown_ne (hown_below (w := wr.drew) OWR.out HBI.out) hclw (by decide))
             have g3 := kcells_of T3 2
             have h3 := kfree_of T3 2
             rw [show (#[Value.string (classP f.pool f.this), .string (classP f.pool f.super), .slice a9 j cp9, .bool F1, .bool F2, .bool false, .int .i64 at_] : Array Value)[2]? = some (.slice a9 j cp9) from rfl] at g3
             obtain ⟨a3, c3, rfl⟩ := hown_form own3
             have OW3 := Lib.hid own3
             have HG3 := Lib.hid hg3
             have TT3 := Lib.hid T3
             clear own3 hg3 hm3 T3 hclw))
        all_goals
          go_wp2
          go_roundg (gk - 1)
          case measure => exact hgg
          case rel =>
            refine ⟨j + 1, _, by go_num, by omega, (heap_set_eq TT3.out).trans rfl, ⟨ss ++ [classP f.pool x], ?_, ?_, ?_⟩, ?_⟩
            · rw [List.take_add_one, HX.out]
              simp [HSS.out]
            · intro y hy
              rcases List.mem_append.1 hy with hy | hy
              · exact HSSZ.out y hy
              · rw [List.mem_singleton.1 hy]; exact HSZ.out x
            · rw [List.length_append, hssl, List.length_singleton, show scells (ss ++ [classP f.pool x]) = scells ss ++ [.string (classP f.pool x)] by simp [scells]]
              exact hown_but OW3.out ((HBut.refl bk bk w3).set bk (.inl rfl)) (hown_ne OW3.out TT3.out (by decide)) (hown_ne OW3.out TT3.out (by decide))
            · have h1 := Below.hlink HBW.out.drew HBI.out
              exact Below.setCell (Below.grown (h1.alloc h1.size _) HG3.out (by have := h1.size; simp; omega) (hown_block_ge OWR.out)) hge _
      · obtain rfl : f.ifs.length = j := by omega
        have c0 := kcells_of HCL.out 0
        have c1 := kcells_of HCL.out 1
        have c2 := kcells_of HCL.out 2
        have c3 := kcells_of HCL.out 3
        have c4 := kcells_of HCL.out 4
        have c5 := kcells_of HCL.out 5
        have c6 := kcells_of HCL.out 6
        have hr := (HBW.out.block (w.heap.size + 1) (by rw [HZ0.out]; omega)).trans RX.out
        have r0 := kcells_of hr 0
        have r1 := kcells_of hr 1
        have r2 := kcells_of hr 2
        have r3 := kcells_of hr 3
        have r4 := kcells_of hr 4
        have r5 := kcells_of hr 5
        have r6 := kcells_of hr 6
        have rf := kfree_of hr
        simp only [List.getElem?_toArray, List.getElem?_cons_succ, List.getElem?_cons_zero] at c0 c1 c2 c3 c4 c5 c6 r0 r1 r2 r3 r4 r5 r6
        have HR := Lib.hid hr
        clear hr hcl hbw
        go_wp2
        have hs := set7 HR.out (.string (classP f.pool f.this)) (.string (classP f.pool f.super)) (.slice a9 f.ifs.length cp9) (.bool F1) (.bool F2) (.bool false) (.int .i64 at_)
        obtain ⟨WF, hWF⟩ : ∃ W, W = ((((((wr.setCell ⟨w.heap.size + 1, 0, none⟩ (.string (classP f.pool f.this))).setCell ⟨w.heap.size + 1, 1, none⟩ (.string (classP f.pool f.super))).setCell ⟨w.heap.size + 1, 2, none⟩ (.slice a9 f.ifs.length cp9)).setCell ⟨w.heap.size + 1, 3, none⟩ (.bool F1)).setCell ⟨w.heap.size + 1, 4, none⟩ (.bool F2)).setCell ⟨w.heap.size + 1, 5, none⟩ (.bool false)).setCell ⟨w.heap.size + 1, 6, none⟩ (.int .i64 at_) := ⟨_, rfl⟩
        rw [← hWF] at hs ⊢
        have z0 := kcells_of hs 0
        have z1 := kcells_of hs 1
        have z2 := kcells_of hs 2
        have z3 := kcells_of hs 3
        have z4 := kcells_of hs 4
        have z5 := kcells_of hs 5
        have z6 := kcells_of hs 6
        simp only [List.getElem?_toArray, List.getElem?_cons_succ, List.getElem?_cons_zero] at z0 z1 z2 z3 z4 z5 z6
        refine bodyPost_ret (v := .agg #[.string (classP f.pool f.this), .string (classP f.pool f.super), .slice a9 f.ifs.length cp9, .bool F1, .bool F2, .bool false, .int .i64 at_]) (by simp [results, results106, go_sem, z0, z1, z2, z3, z4, z5, z6]) rfl ?_
        rw [hWF]
        have hfl := HFL.out
        have q1 : F1 = decide (f.fl = 3) := by rw [HF1.out]; rcases hfl with h | h | h <;> rw [h] <;> rfl
        have q2 : F2 = decide (f.fl ≠ 0) := by rw [HF2.out]; rcases hfl with h | h | h <;> rw [h] <;> rfl
        refine ⟨_, by rw [q1, q2], ⟨ss, ?_, HSSZ.out, ?_⟩, below7 (HB0.out.trans (HBW.out.mono (by rw [HZ0.out]; omega))) (by omega) _ _ _ _ _ _ _⟩
        · rw [HSS.out, List.take_length]
        · rw [hssl]
          have hne : (Value.slice a9 f.ifs.length cp9).ownBlock ≠ some (w.heap.size + 1) := fun e => by have := hown_block_ge OWR.out _ e; rw [HZ0.out] at this; omega
          have hbut := ((((((((HBut.refl (w.heap.size + 1) (w.heap.size + 1) wr).set (i := 0) (u := .string (classP f.pool f.this)) _ (.inl rfl)).set (i := 1) (u := .string (classP f.pool f.super)) _ (.inl rfl)).set (i := 2) (u := .slice a9 f.ifs.length cp9) _ (.inl rfl)).set (i := 3) (u := .bool F1) _ (.inl rfl)).set (i := 4) (u := .bool F2) _ (.inl rfl)).set (i := 5) (u := .bool false) _ (.inl rfl)).set (i := 6) (u := .int .i64 at_) _ (.inl rfl))
          exact hown_mono (hown_but OWR.out hbut hne hne) (by rw [HZ0.out]; omega)
end Go.Proofs.YtmaknddlgppinaaGreatDoor
