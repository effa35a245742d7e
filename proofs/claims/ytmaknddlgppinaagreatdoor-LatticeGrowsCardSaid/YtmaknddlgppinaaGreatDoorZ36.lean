/-
  CUT and joined from the texts of this seat: Rl
-/
import Derived.Test.YtmaknddlgppinaaGreatDoorZ01
import Derived.Test.YtmaknddlgppinaaGreatDoorZ34
import Derived.Test.YtmaknddlgppinaaGreatDoorZ35
import Derived.Test.YtmaknddlgppinaaGreatDoorZ30
set_option linter.unusedVariables false
set_option linter.unusedSimpArgs false
namespace Go.Proofs.YtmaknddlgppinaaGreatDoor
open Go.RowKit
/-- What the document's Open answers. -/
def ROpenAns (cs : List PC) (fs : List Fl) (w' : World) (e : Ending) : Prop :=
 (∃ x a, openP cs (fcs fs 0) = .inr (x, a) ∧ e = .returned (.tuple #[.pointer none, .int .i64 ((x : Nat) : Int), .int .i64 ((a : Nat) : Int)])) ∨
 ∃ ds q A cap, openP cs (fcs fs 0) = .inl ds ∧ e = .returned (.tuple #[.pointer (some ⟨q, 0, none⟩), .int .i64 0, .int .i64 0]) ∧ RT w'.heap.size q A cap ds cs.length w'
theorem results60 : Tryz.f60.results = #[ResultVar.tmp 4, ResultVar.tmp 5, ResultVar.tmp 6] := by kernel_rfl
theorem firstR_next {ds : List PC} {k n m : Nat} (hm : m < n) (h : firstR ds k (n - m) m = firstR ds k n 0) : (Abv ds (k + m) (k + m) → firstR ds k n 0 = some m) ∧ (¬ Abv ds (k + m) (k + m) → firstR ds k (n - (m + 1)) (m + 1) = firstR ds k n 0) := by
 have e : n - m = (n - (m + 1)) + 1 := by omega
 rw [e] at h
 constructor
 ·intro ha
  rw [← h]
  unfold firstR
  rw [if_pos ha]
 ·intro ha
  rw [← h]
  conv => rhs; unfold firstR
  rw [if_neg ha]
section
variable {B p ow cap : Nat} {A : Option Addr} {cs : List PC} {w : World}
set_option maxRecDepth 1000000 in
set_option maxHeartbeats 51200000 in
theorem ROpen_any (h : RT B p A cap cs ow w) (G : Good cs) {Bf : Nat} (fs : List Fl) (v : Value) (hf : FsRow Bf w v fs) (hBf : Bf ≤ w.heap.size) (hok : ∀ f ∈ fs, encF f = 0 → (∀ i, (classP f.pool i).size ≤ 1000000) ∧ f.ifs.length ≤ 1000)
  (hRR : ∀ f ∈ fs, ∀ (Bw : Nat) (V : Value) (W : World), FileAt Bw W V f → Bw ≤ W.heap.size → Calls Tryz.prog 96 #[V] W fun e w' => e = .returned (.int .i64 (encF f)) ∧ Below W.heap.size W w') (hfew : cs.length ≤ 900) :
  Calls Tryz.prog 60 #[.pointer (some ⟨p, 0, none⟩), v] w fun e w' => ROpenAns cs fs w' e ∧ Below w.heap.size w w' := by
 obtain ⟨Af, capf, rfl, hcapf, hmaxf⟩ := hf.form
 obtain ⟨i0, hi0, hz0, hz1, hz2⟩ := info119
 obtain ⟨i9, hi9, hy0, hy1, hy2⟩ := info9
 have H := Lib.hid h
 have HG := Lib.hid G
 have HF := Lib.hid hf
 have HOK := Lib.hid hok
 have HRR := Lib.hid hRR
 have hp := h.lt
 have hB := h.hB
 clear h G hf hok hRR
 unfold maxLen at hmaxf
 by_cases h64 : 64 < fs.length
 ·have HO := Lib.hid (show openP cs (fcs fs 0) = .inr (3, 0) by unfold openP; rw [if_pos (by rw [fcs_length]; exact h64)])
  go_enter Tryz.func60, Tryz.ntmps60
  go_wp2
  refine bodyPost_ret (v := .tuple #[.pointer none, .int .i64 3, .int .i64 0]) (by simp [results, results60, go_sem]) rfl ?_
  exact ⟨.inl ⟨3, 0, HO.out, rfl⟩, Below.refl _ _⟩
 go_enter Tryz.func60, Tryz.ntmps60
 go_upto_region 3 with fail
 go_cut [7] (fun v7 wx => ∃ q, v7 = .pointer (some ⟨q, 0, none⟩) ∧ OT w.heap.size q (.slice none 0 0) cs.length [] wx ∧ Below w.heap.size w wx)
 case first =>
  go_wp2
  go_meet
  case rel => exact ⟨_, rfl, ⟨hheap_new _ _, OwnCs.nil _ _ _, Nat.le_refl _, by simp⟩, (Below.refl _ _).alloc (Nat.le_refl _) _⟩
 obtain ⟨q, rfl, hot, hb⟩ := hcut
 obtain ⟨V0, hV0⟩ : ∃ x, x = wc := ⟨_, rfl⟩
 subst hV0
 have OT0 := Lib.hid hot
 have BV0 := Lib.hid hb
 obtain ⟨n, hn⟩ : ∃ n, cs.length = n := ⟨_, rfl⟩
 have HNN := Lib.hid hn
 rw [hn] at hfew OT0
 clear hot hb hn
 go_wp2
 go_loopg [8] n (fun g v8 wx => ∃ (j : Nat) (v : Value), v8 = .int .i64 j ∧ j + g = n ∧ OT w.heap.size q v n (cs.take j) wx ∧ Below w.heap.size w wx)
 case atStart => exact ⟨0, _, rfl, by omega, OT0.out, BV0.out⟩
 case round => as_aux_lemma =>
  obtain ⟨j, vt, rfl, hjg, hot, hbw⟩ := hrel
  have OT1 := Lib.hid hot
  have BW := Lib.hid hbw
  have h' := H.out.link hbw
  have c0 := h'.cell
  rw [HNN.out] at c0
  obtain ⟨W0, hW0⟩ : ∃ x, x = wr := ⟨_, rfl⟩
  subst hW0
  obtain ⟨G0, hG0⟩ : ∃ x, x = gk := ⟨_, rfl⟩
  subst hG0
  by_cases hj : j < n
  ·obtain ⟨c, hcx⟩ : ∃ c, cs[j]? = some c := ⟨_, List.getElem?_eq_getElem (by rw [HNN.out]; exact hj)⟩
   obtain ⟨b, o, s0, t0, a, ca, rfl, hb, d0, d1, d2, d3, d4, d5, d6, q1, q2, q3, q4, q5, q6⟩ := h'.row.at_ hcx
   have HCX := Lib.hid hcx
   have hq5 : SRow w.heap.size W0 (.slice a c.ifaces.length ca) c.ifaces := by
    obtain ⟨ss, k1, k2, k3⟩ := q5
    exact ⟨ss, k1, k2, k3.more hB⟩
   have HQ := Lib.hid (And.intro q1 (And.intro q2 (And.intro q3 (And.intro q4 (And.intro hq5 q6)))))
   have hbw' : b ≠ W0.heap.size := by have := BW.out.size; omega
   clear hcx q1 q2 q3 q4 q5 q6 hq5 h' hot hbw
   go_upto_region 8 with fail
   go_cut [] (fun wx => wx.heap[W0.heap.size]? = some (.cells #[.string s0, .string t0, .slice a c.ifaces.length ca, .bool c.iface, .bool c.abs, .bool false, .int .i64 c.at_] 119 (0, 0)) ∧ Below W0.heap.size W0 wx)
   case first =>
    go_wp2
    go_meet
    case rel => exact ⟨hheap_new _ _, (Below.refl _ _).alloc (Nat.le_refl _) _⟩
   obtain ⟨hbx, hb1⟩ := hcut
   obtain ⟨V1, hV1⟩ : ∃ x, x = wc := ⟨_, rfl⟩
   subst hV1
   have OT2 := Lib.hid (OT1.out.below hb1)
   have B1 := Lib.hid (BW.out.trans (hb1.mono BW.out.size))
   obtain ⟨vs, hv1, hv2, hv3⟩ := OT2.out.own
   have hlen : (cs.take j).length = j := by rw [List.length_take, HNN.out]; omega
   rw [hlen] at hv3
   obtain ⟨av, cv, rfl⟩ := hown_form hv3
   have HR := Lib.hid hv3
   have HV := Lib.hid (And.intro hv1 hv2)
   have HLN := Lib.hid hlen
   have HX := Lib.hid (show ClsO w.heap.size V1 (.agg #[.string s0, .string t0, .slice a c.ifaces.length ca, .bool c.iface, .bool c.abs, .bool false, .int .i64 c.at_]) (decide (n ≤ (cs.take j).length)) c by
    obtain ⟨q1, q2, q3, q4, q5, q6⟩ := HQ.out
    rw [hlen, decide_eq_false (by omega)]
    exact ⟨s0, t0, a, ca, rfl, q1, q2, q3, q4, .inl (q5.keep fun p hp => hb1.cell (Nat.lt_of_lt_of_le hp BW.out.size)), q6⟩)
   have PUSH := Lib.hid (fun (W w' : World) (v' : Value) (hW : Below V1.heap.size V1 W) (hg : W.grownBy w' (Value.slice av j cv).ownBlock) (own' : w'.ownsRow w.heap.size 119 7 v' (j + 1) (vs.flatMap cagg ++ [.string s0, .string t0, .slice a c.ifaces.length ca, .bool c.iface, .bool c.abs, .bool false, .int .i64 c.at_])) =>
    show OT w.heap.size q v' n (cs.take (j + 1)) (w'.setCell ⟨q, 0, none⟩ v') ∧ Below w.heap.size w (w'.setCell ⟨q, 0, none⟩ v') from by
     have P := OT.push (q := q) OT2.out hW HX.out vs hv1 hv2 (by rw [hlen]; exact hv3) hg (by rw [hlen]; exact own')
     rw [List.take_add_one, HCX.out]
     exact ⟨P.1, B1.out.trans P.2⟩)
   have kk := kcells_of hbx
   have k0 := kk 0
   have k1 := kk 1
   have k2 := kk 2
   have k3 := kk 3
   have k4 := kk 4
   have k5 := kk 5
   have k6 := kk 6
   simp only [List.getElem?_toArray, List.getElem?_cons_succ, List.getElem?_cons_zero] at k0 k1 k2 k3 k4 k5 k6
   have q0 : V1.cell? ⟨q, 0, none⟩ = some (.slice av j cv) := kcells_of OT2.out.box 0
   have hql := lt_of_block OT2.out.box
   have hql2 : W0.heap.size < V1.heap.size := lt_of_block hbx
   have qa : ∀ (n : Nat) (o : Obj), ((V1.drewN n).alloc o).cell? ⟨q, 0, none⟩ = some (.slice av j cv) := fun n o => (World.cell?_alloc_lt _ _ _ hql).trans q0
   have qb : ∀ (o : Obj), (V1.drew.alloc o).cell? ⟨q, 0, none⟩ = some (.slice av j cv) := fun o => qa 1 o
   have hsz := B1.out.size
   generalize c.ifaces.length = cil at *
   clear hbx hb1 hv1 hv2 hv3 hlen kk c0 d0 d1 d2 d3 d4 d5 d6
   go_upto_region 9 with fail
   refine wp_region_any (by kernel_rfl) ?_
   change wpAny _ _ _ _ _ _ _ V1.drew
   refine wpAny_take (i := 0) (oi := ({ dst := some 45, op := Op.move (Operand.tmp 7), type := 36, pos := "ref.go:118", after := #[], guard := none } : Oper)) (v := ?bv1) rfl (by kernel_rfl) (by kernel_rfl) (by kernel_rfl) (fun _ _ _ h => h) (Or.inl ⟨by rfl, ?by1⟩) ?_
   case by1 => (intro V; go_simp; try with_reducible rfl)
   try simp only [pu0, puN, pu1, pu2, pu3]
   refine wpAny_take (i := 1) (oi := ({ dst := some 46, op := Op.move (Operand.tmp 7), type := 36, pos := "ref.go:118", after := #[], guard := none } : Oper)) (v := ?bv2) rfl (by kernel_rfl) (by kernel_rfl) (by kernel_rfl) (fun _ _ _ h => h) (Or.inl ⟨by rfl, ?by2⟩) ?_
   case by2 => (intro V; go_simp; try with_reducible rfl)
   try simp only [pu0, puN, pu1, pu2, pu3]
   refine wpAny_take (i := 2) (oi := ({ dst := some 47, op := Op.nilCheck (Operand.tmp 46), type := 0, pos := "ref.go:118", after := #[{ on := 1, ground := Ground.data }], guard := none } : Oper)) (v := ?bv3) rfl (by kernel_rfl) (by kernel_rfl) (by kernel_rfl) (fun _ _ _ h => h) (Or.inl ⟨by rfl, ?by3⟩) ?_
   case by3 => (intro V; go_simp; try with_reducible rfl)
   try simp only [pu0, puN, pu1, pu2, pu3]
   refine wpAny_take (i := 3) (oi := ({ dst := some 48, op := Op.fieldAddr 105 (Operand.tmp 47) 0, type := 0, pos := "ref.go:118", after := #[{ on := 2, ground := Ground.data }], guard := none } : Oper)) (v := ?bv4) rfl (by kernel_rfl) (by kernel_rfl) (by kernel_rfl) (fun _ _ _ h => h) (Or.inl ⟨by rfl, ?by4⟩) ?_
   case by4 => (intro V; go_simp; try with_reducible rfl)
   try simp only [pu0, puN, pu1, pu2, pu3]
   refine wpAny_ready (rs := [4, 5]) (by kernel_rfl) (by simp) ?_
   refine (AllReady.cons (o := ({ dst := some 49, op := Op.load 102 (Operand.tmp 48), type := 102, pos := "ref.go:118", after := #[{ on := 3, ground := Ground.data }], guard := none } : Oper)) rfl (fun K hK => ?_) (AllReady.cons (o := ({ dst := some 50, op := Op.load 119 (Operand.tmp 9), type := 119, pos := "ref.go:118", after := #[], guard := none } : Oper)) rfl (fun K hK => ?_) AllReady.nil))
   ·have HK := Lib.hid hK
    clear hK
    go_simp
    refine HK.out _ _ ?_
    clear HK K
    try simp only [pu0, puN, pu1, pu2, pu3]
    refine wpAny_ready (rs := [5]) (by kernel_rfl) (by simp) ?_
    refine (AllReady.cons (o := ({ dst := some 50, op := Op.load 119 (Operand.tmp 9), type := 119, pos := "ref.go:118", after := #[], guard := none } : Oper)) rfl (fun K hK => ?_) AllReady.nil)
    have HK := Lib.hid hK
    clear hK
    go_simp
    refine HK.out _ _ ?_
    clear HK K
    try simp only [pu0, puN, pu1, pu2, pu3]
    refine wpAny_ready (rs := [6]) (by kernel_rfl) (by simp) ?_
    refine (AllReady.cons (o := ({ dst := some 51, op := Op.buildSlice 102 1 #[(0, Operand.tmp 50)], type := 102, pos := "ref.go:118", after := #[{ on := 5, ground := Ground.data }], guard := none } : Oper)) rfl (fun K hK => ?_) AllReady.nil)
    have HK := Lib.hid hK
    clear hK
    refine hstep_build119 rfl (.tmp 50) rfl (.string s0) (.string t0) (.slice a cil ca) (.bool c.iface) (.bool c.abs) (.bool false) (.int .i64 c.at_) rfl ?_
    refine HK.out _ _ ?_
    clear HK K
    try simp only [pu0, puN, pu1, pu2, pu3]
    refine wpAny_ready (rs := [7]) (by kernel_rfl) (by simp) ?_
    refine (AllReady.cons (o := ({ dst := some 52, op := Op.call { callee := Callee.builtin Builtin.append, args := #[Operand.tmp 49, Operand.tmp 51], argTypes := #[102, 102] }, type := 102, pos := "ref.go:118", after := #[{ on := 4, ground := Ground.data }, { on := 6, ground := Ground.data }], guard := none } : Oper)) rfl (fun K hK => ?_) AllReady.nil)
    have HK := Lib.hid hK
    clear hK
    refine hstep_append_own2 rfl (.tmp 49) (.tmp 51) 102 rfl w.heap.size 119 i0 (.agg #[.string ⟨#[]⟩, .string ⟨#[]⟩, .slice none 0 0, .bool false, .bool false, .bool false, .int .i64 0]) 7 72 und102 hi0 hz0 hz1 hz2 rfl (by decide) (.slice av j cv) j _ rfl (World.ownsRow.alloc HR.out _) ⟨_, 0, none⟩ 1 1 [.string s0, .string t0, .slice a cil ca, .bool c.iface, .bool c.abs, .bool false, .int .i64 c.at_] rfl rfl (knew_at _ [.string s0, .string t0, .slice a cil ca, .bool c.iface, .bool c.abs, .bool false, .int .i64 c.at_] 119 _ (by simp)) (fun u hu => by simp only [List.mem_cons, List.not_mem_nil, or_false] at hu; rcases hu with rfl | rfl | rfl | rfl | rfl | rfl | rfl <;> rfl) (by unfold maxLen; omega) (by omega) (by simp; omega) ?_
    intro v3 w3 own3 hg3 hm3
    have PU := Lib.hid (PUSH.out _ _ _ (((Below.refl _ _).drew).alloc (Nat.le_refl _) _) hg3 own3)
    have K3 := grown_block hg3 (hheap_alloc_lt OT2.out.box) (hown_ne HR.out OT2.out.box (by decide))
    obtain ⟨a3, c3, rfl⟩ := hown_form own3
    have kn := kcells_of K3 0
    have kf := kfree_of K3
    clear own3 hg3 hm3 K3
    refine HK.out _ _ ?_
    clear HK K
    try simp only [pu0, puN, pu1, pu2, pu3]
    refine wpAny_take (i := 8) (oi := ({ dst := some 53, op := Op.nilCheck (Operand.tmp 45), type := 0, pos := "ref.go:118", after := #[{ on := 0, ground := Ground.data }, { on := 0, ground := Ground.phase }, { on := 1, ground := Ground.phase }, { on := 2, ground := Ground.phase }, { on := 3, ground := Ground.phase }, { on := 4, ground := Ground.phase }, { on := 5, ground := Ground.phase }, { on := 6, ground := Ground.phase }, { on := 7, ground := Ground.phase }], guard := none } : Oper)) (v := ?bv5) rfl (by kernel_rfl) (by kernel_rfl) (by kernel_rfl) (fun _ _ _ h => h) (Or.inl ⟨by rfl, ?by5⟩) ?_
    case by5 => (intro V; go_simp; try with_reducible rfl)
    try simp only [pu0, puN, pu1, pu2, pu3]
    refine wpAny_take (i := 9) (oi := ({ dst := some 54, op := Op.fieldAddr 105 (Operand.tmp 53) 0, type := 0, pos := "ref.go:118", after := #[{ on := 8, ground := Ground.data }, { on := 0, ground := Ground.phase }, { on := 1, ground := Ground.phase }, { on := 2, ground := Ground.phase }, { on := 3, ground := Ground.phase }, { on := 4, ground := Ground.phase }, { on := 5, ground := Ground.phase }, { on := 6, ground := Ground.phase }, { on := 7, ground := Ground.phase }], guard := none } : Oper)) (v := ?bv6) rfl (by kernel_rfl) (by kernel_rfl) (by kernel_rfl) (fun _ _ _ h => h) (Or.inl ⟨by rfl, ?by6⟩) ?_
    case by6 => (intro V; go_simp; try with_reducible rfl)
    try simp only [pu0, puN, pu1, pu2, pu3]
    refine wpAny_ready (rs := [10]) (by kernel_rfl) (by simp) ?_
    refine (AllReady.cons (o := ({ dst := none, op := Op.store 102 (Operand.tmp 54) (Operand.tmp 52), type := 0, pos := "ref.go:118", after := #[{ on := 9, ground := Ground.data }, { on := 7, ground := Ground.data }, { on := 7, ground := Ground.chain }, { on := 0, ground := Ground.phase }, { on := 1, ground := Ground.phase }, { on := 2, ground := Ground.phase }, { on := 3, ground := Ground.phase }, { on := 4, ground := Ground.phase }, { on := 5, ground := Ground.phase }, { on := 6, ground := Ground.phase }, { on := 7, ground := Ground.phase }], guard := none } : Oper)) rfl (fun K hK => ?_) AllReady.nil)
    have HK := Lib.hid hK
    clear hK
    go_simp
    refine HK.out _ _ ?_
    clear HK K
    try simp only [pu0, puN, pu1, pu2, pu3]
    refine wpAny_done (by kernel_rfl) ?_ _
    try go_wp2
    go_roundg (G0 - 1)
    case measure => omega
    case rel => exact ⟨j + 1, _, by go_num, by omega, PU.out.1, PU.out.2⟩
   ·have HK := Lib.hid hK
    clear hK
    go_simp
    refine HK.out _ _ ?_
    clear HK K
    try simp only [pu0, puN, pu1, pu2, pu3]
    refine wpAny_ready (rs := [4, 6]) (by kernel_rfl) (by simp) ?_
    refine (AllReady.cons (o := ({ dst := some 49, op := Op.load 102 (Operand.tmp 48), type := 102, pos := "ref.go:118", after := #[{ on := 3, ground := Ground.data }], guard := none } : Oper)) rfl (fun K hK => ?_) (AllReady.cons (o := ({ dst := some 51, op := Op.buildSlice 102 1 #[(0, Operand.tmp 50)], type := 102, pos := "ref.go:118", after := #[{ on := 5, ground := Ground.data }], guard := none } : Oper)) rfl (fun K hK => ?_) AllReady.nil))
    ·have HK := Lib.hid hK
     clear hK
     go_simp
     refine HK.out _ _ ?_
     clear HK K
     try simp only [pu0, puN, pu1, pu2, pu3]
     refine wpAny_ready (rs := [6]) (by kernel_rfl) (by simp) ?_
     refine (AllReady.cons (o := ({ dst := some 51, op := Op.buildSlice 102 1 #[(0, Operand.tmp 50)], type := 102, pos := "ref.go:118", after := #[{ on := 5, ground := Ground.data }], guard := none } : Oper)) rfl (fun K hK => ?_) AllReady.nil)
     have HK := Lib.hid hK
     clear hK
     refine hstep_build119 rfl (.tmp 50) rfl (.string s0) (.string t0) (.slice a cil ca) (.bool c.iface) (.bool c.abs) (.bool false) (.int .i64 c.at_) rfl ?_
     refine HK.out _ _ ?_
     clear HK K
     try simp only [pu0, puN, pu1, pu2, pu3]
     refine wpAny_ready (rs := [7]) (by kernel_rfl) (by simp) ?_
     refine (AllReady.cons (o := ({ dst := some 52, op := Op.call { callee := Callee.builtin Builtin.append, args := #[Operand.tmp 49, Operand.tmp 51], argTypes := #[102, 102] }, type := 102, pos := "ref.go:118", after := #[{ on := 4, ground := Ground.data }, { on := 6, ground := Ground.data }], guard := none } : Oper)) rfl (fun K hK => ?_) AllReady.nil)
     have HK := Lib.hid hK
     clear hK
     refine hstep_append_own2 rfl (.tmp 49) (.tmp 51) 102 rfl w.heap.size 119 i0 (.agg #[.string ⟨#[]⟩, .string ⟨#[]⟩, .slice none 0 0, .bool false, .bool false, .bool false, .int .i64 0]) 7 72 und102 hi0 hz0 hz1 hz2 rfl (by decide) (.slice av j cv) j _ rfl (World.ownsRow.alloc HR.out _) ⟨_, 0, none⟩ 1 1 [.string s0, .string t0, .slice a cil ca, .bool c.iface, .bool c.abs, .bool false, .int .i64 c.at_] rfl rfl (knew_at _ [.string s0, .string t0, .slice a cil ca, .bool c.iface, .bool c.abs, .bool false, .int .i64 c.at_] 119 _ (by simp)) (fun u hu => by simp only [List.mem_cons, List.not_mem_nil, or_false] at hu; rcases hu with rfl | rfl | rfl | rfl | rfl | rfl | rfl <;> rfl) (by unfold maxLen; omega) (by omega) (by simp; omega) ?_
     intro v3 w3 own3 hg3 hm3
     have PU := Lib.hid (PUSH.out _ _ _ (((Below.refl _ _).drew).alloc (Nat.le_refl _) _) hg3 own3)
     have K3 := grown_block hg3 (hheap_alloc_lt OT2.out.box) (hown_ne HR.out OT2.out.box (by decide))
     obtain ⟨a3, c3, rfl⟩ := hown_form own3
     have kn := kcells_of K3 0
     have kf := kfree_of K3
     clear own3 hg3 hm3 K3
     refine HK.out _ _ ?_
     clear HK K
     try simp only [pu0, puN, pu1, pu2, pu3]
     refine wpAny_take (i := 8) (oi := ({ dst := some 53, op := Op.nilCheck (Operand.tmp 45), type := 0, pos := "ref.go:118", after := #[{ on := 0, ground := Ground.data }, { on := 0, ground := Ground.phase }, { on := 1, ground := Ground.phase }, { on := 2, ground := Ground.phase }, { on := 3, ground := Ground.phase }, { on := 4, ground := Ground.phase }, { on := 5, ground := Ground.phase }, { on := 6, ground := Ground.phase }, { on := 7, ground := Ground.phase }], guard := none } : Oper)) (v := ?bv7) rfl (by kernel_rfl) (by kernel_rfl) (by kernel_rfl) (fun _ _ _ h => h) (Or.inl ⟨by rfl, ?by7⟩) ?_
     case by7 => (intro V; go_simp; try with_reducible rfl)
     try simp only [pu0, puN, pu1, pu2, pu3]
     refine wpAny_take (i := 9) (oi := ({ dst := some 54, op := Op.fieldAddr 105 (Operand.tmp 53) 0, type := 0, pos := "ref.go:118", after := #[{ on := 8, ground := Ground.data }, { on := 0, ground := Ground.phase }, { on := 1, ground := Ground.phase }, { on := 2, ground := Ground.phase }, { on := 3, ground := Ground.phase }, { on := 4, ground := Ground.phase }, { on := 5, ground := Ground.phase }, { on := 6, ground := Ground.phase }, { on := 7, ground := Ground.phase }], guard := none } : Oper)) (v := ?bv8) rfl (by kernel_rfl) (by kernel_rfl) (by kernel_rfl) (fun _ _ _ h => h) (Or.inl ⟨by rfl, ?by8⟩) ?_
     case by8 => (intro V; go_simp; try with_reducible rfl)
     try simp only [pu0, puN, pu1, pu2, pu3]
     refine wpAny_ready (rs := [10]) (by kernel_rfl) (by simp) ?_
     refine (AllReady.cons (o := ({ dst := none, op := Op.store 102 (Operand.tmp 54) (Operand.tmp 52), type := 0, pos := "ref.go:118", after := #[{ on := 9, ground := Ground.data }, { on := 7, ground := Ground.data }, { on := 7, ground := Ground.chain }, { on := 0, ground := Ground.phase }, { on := 1, ground := Ground.phase }, { on := 2, ground := Ground.phase }, { on := 3, ground := Ground.phase }, { on := 4, ground := Ground.phase }, { on := 5, ground := Ground.phase }, { on := 6, ground := Ground.phase }, { on := 7, ground := Ground.phase }], guard := none } : Oper)) rfl (fun K hK => ?_) AllReady.nil)
     have HK := Lib.hid hK
     clear hK
     go_simp
     refine HK.out _ _ ?_
     clear HK K
     try simp only [pu0, puN, pu1, pu2, pu3]
     refine wpAny_done (by kernel_rfl) ?_ _
     try go_wp2
     go_roundg (G0 - 1)
     case measure => omega
     case rel => exact ⟨j + 1, _, by go_num, by omega, PU.out.1, PU.out.2⟩
    ·have HK := Lib.hid hK
     clear hK
     refine hstep_build119 rfl (.tmp 50) rfl (.string s0) (.string t0) (.slice a cil ca) (.bool c.iface) (.bool c.abs) (.bool false) (.int .i64 c.at_) rfl ?_
     refine HK.out _ _ ?_
     clear HK K
     try simp only [pu0, puN, pu1, pu2, pu3]
     refine wpAny_ready (rs := [4]) (by kernel_rfl) (by simp) ?_
     refine (AllReady.cons (o := ({ dst := some 49, op := Op.load 102 (Operand.tmp 48), type := 102, pos := "ref.go:118", after := #[{ on := 3, ground := Ground.data }], guard := none } : Oper)) rfl (fun K hK => ?_) AllReady.nil)
     have HK := Lib.hid hK
     clear hK
     go_simp
     refine HK.out _ _ ?_
     clear HK K
     try simp only [pu0, puN, pu1, pu2, pu3]
     refine wpAny_ready (rs := [7]) (by kernel_rfl) (by simp) ?_
     refine (AllReady.cons (o := ({ dst := some 52, op := Op.call { callee := Callee.builtin Builtin.append, args := #[Operand.tmp 49, Operand.tmp 51], argTypes := #[102, 102] }, type := 102, pos := "ref.go:118", after := #[{ on := 4, ground := Ground.data }, { on := 6, ground := Ground.data }], guard := none } : Oper)) rfl (fun K hK => ?_) AllReady.nil)
     have HK := Lib.hid hK
     clear hK
     refine hstep_append_own2 rfl (.tmp 49) (.tmp 51) 102 rfl w.heap.size 119 i0 (.agg #[.string ⟨#[]⟩, .string ⟨#[]⟩, .slice none 0 0, .bool false, .bool false, .bool false, .int .i64 0]) 7 72 und102 hi0 hz0 hz1 hz2 rfl (by decide) (.slice av j cv) j _ rfl (World.ownsRow.alloc HR.out _) ⟨_, 0, none⟩ 1 1 [.string s0, .string t0, .slice a cil ca, .bool c.iface, .bool c.abs, .bool false, .int .i64 c.at_] rfl rfl (knew_at _ [.string s0, .string t0, .slice a cil ca, .bool c.iface, .bool c.abs, .bool false, .int .i64 c.at_] 119 _ (by simp)) (fun u hu => by simp only [List.mem_cons, List.not_mem_nil, or_false] at hu; rcases hu with rfl | rfl | rfl | rfl | rfl | rfl | rfl <;> rfl) (by unfold maxLen; omega) (by omega) (by simp; omega) ?_
     intro v3 w3 own3 hg3 hm3
     have PU := Lib.hid (PUSH.out _ _ _ (((Below.refl _ _).drew).alloc (Nat.le_refl _) _) hg3 own3)
     have K3 := grown_block hg3 (hheap_alloc_lt OT2.out.box) (hown_ne HR.out OT2.out.box (by decide))
     obtain ⟨a3, c3, rfl⟩ := hown_form own3
     have kn := kcells_of K3 0
     have kf := kfree_of K3
     clear own3 hg3 hm3 K3
     refine HK.out _ _ ?_
     clear HK K
     try simp only [pu0, puN, pu1, pu2, pu3]
     refine wpAny_take (i := 8) (oi := ({ dst := some 53, op := Op.nilCheck (Operand.tmp 45), type := 0, pos := "ref.go:118", after := #[{ on := 0, ground := Ground.data }, { on := 0, ground := Ground.phase }, { on := 1, ground := Ground.phase }, { on := 2, ground := Ground.phase }, { on := 3, ground := Ground.phase }, { on := 4, ground := Ground.phase }, { on := 5, ground := Ground.phase }, { on := 6, ground := Ground.phase }, { on := 7, ground := Ground.phase }], guard := none } : Oper)) (v := ?bv9) rfl (by kernel_rfl) (by kernel_rfl) (by kernel_rfl) (fun _ _ _ h => h) (Or.inl ⟨by rfl, ?by9⟩) ?_
     case by9 => (intro V; go_simp; try with_reducible rfl)
     try simp only [pu0, puN, pu1, pu2, pu3]
     refine wpAny_take (i := 9) (oi := ({ dst := some 54, op := Op.fieldAddr 105 (Operand.tmp 53) 0, type := 0, pos := "ref.go:118", after := #[{ on := 8, ground := Ground.data }, { on := 0, ground := Ground.phase }, { on := 1, ground := Ground.phase }, { on := 2, ground := Ground.phase }, { on := 3, ground := Ground.phase }, { on := 4, ground := Ground.phase }, { on := 5, ground := Ground.phase }, { on := 6, ground := Ground.phase }, { on := 7, ground := Ground.phase }], guard := none } : Oper)) (v := ?bv10) rfl (by kernel_rfl) (by kernel_rfl) (by kernel_rfl) (fun _ _ _ h => h) (Or.inl ⟨by rfl, ?by10⟩) ?_
     case by10 => (intro V; go_simp; try with_reducible rfl)
     try simp only [pu0, puN, pu1, pu2, pu3]
     refine wpAny_ready (rs := [10]) (by kernel_rfl) (by simp) ?_
     refine (AllReady.cons (o := ({ dst := none, op := Op.store 102 (Operand.tmp 54) (Operand.tmp 52), type := 0, pos := "ref.go:118", after := #[{ on := 9, ground := Ground.data }, { on := 7, ground := Ground.data }, { on := 7, ground := Ground.chain }, { on := 0, ground := Ground.phase }, { on := 1, ground := Ground.phase }, { on := 2, ground := Ground.phase }, { on := 3, ground := Ground.phase }, { on := 4, ground := Ground.phase }, { on := 5, ground := Ground.phase }, { on := 6, ground := Ground.phase }, { on := 7, ground := Ground.phase }], guard := none } : Oper)) rfl (fun K hK => ?_) AllReady.nil)
     have HK := Lib.hid hK
     clear hK
     go_simp
     refine HK.out _ _ ?_
     clear HK K
     try simp only [pu0, puN, pu1, pu2, pu3]
     refine wpAny_done (by kernel_rfl) ?_ _
     try go_wp2
     go_roundg (G0 - 1)
     case measure => omega
     case rel => exact ⟨j + 1, _, by go_num, by omega, PU.out.1, PU.out.2⟩
  ·have hjn : j = n := by omega
   subst hjn
   have htk : cs.take j = cs := by rw [← HNN.out, List.take_length]
   rw [htk] at hot
   obtain ⟨av, cv, rfl⟩ := hot.own.form
   have OT2 := Lib.hid hot
   have q0 : W0.cell? ⟨q, 0, none⟩ = some (.slice av cs.length cv) := kcells_of hot.box 0
   rw [HNN.out] at q0
   clear hot hbw htk h' OT1
   rw [HNN.out] at OT2
   go_wp2
   clear c0 q0
   go_loopg [11] fs.length (fun g v11 wx => ∃ (m : Nat) (v : Value) (own : List PC), v11 = .int .i64 m ∧ m + g = fs.length ∧ Took2 cs fs m own ∧ OT w.heap.size q v j (cs ++ own) wx ∧ Below w.heap.size w wx)
   case atStart => exact ⟨0, _, [], rfl, by omega, Took2.start cs fs, by rw [List.append_nil]; exact OT2.out, BW.out⟩
   case round => as_aux_lemma =>
    obtain ⟨m, vt, own, rfl, hmg, htk, hot, hbw⟩ := hrel
    obtain ⟨av, cv, rfl⟩ := hot.own.form
    obtain ⟨W1, hW1⟩ : ∃ x, x = wr := ⟨_, rfl⟩
    subst hW1
    obtain ⟨G1, hG1⟩ : ∃ x, x = gk := ⟨_, rfl⟩
    subst hG1
    have OT3 := Lib.hid hot
    have TK := Lib.hid htk
    have B2 := Lib.hid hbw
    by_cases hm : m < fs.length
    ·obtain ⟨f, hfm⟩ : ∃ f, fs[m]? = some f := ⟨_, List.getElem?_eq_getElem hm⟩
     have hfr := HF.out.keep (w' := W1) (fun p hp => hbw.cell (p := p) (by omega))
     obtain ⟨bf, of, Ap, cp, Ai, ci, Af2, cf, Am, cm, rfl, hbf, hfi, z0, z1, z2, z3, z4, z5, z6⟩ := hfr.at_ hfm
     have HFM := Lib.hid hfm
     have hfmem := List.mem_of_getElem? hfm
     obtain ⟨il, hil⟩ : ∃ n, f.ifs.length = n := ⟨_, rfl⟩
     have HIL := Lib.hid hil
     have FA := Lib.hid (hfi.at_)
     have hsz2 := hbw.size
     rw [hil] at z4 FA
     have RR := Lib.hid (fun W (hb : Below W1.heap.size W1 W) => HRR.out f hfmem Bf _ W (FA.out.below (B' := W1.heap.size) hb (by omega)) (by have := hb.size; omega))
     have CN := Lib.hid (fun W (hb : Below W1.heap.size W1 W) i => refClassName_any (B := Bf) f _ W (FA.out.below (B' := W1.heap.size) hb (by omega)) (by have := hb.size; omega) i)
     have OKF := Lib.hid (HOK.out f hfmem)
     have FI := Lib.hid hfi
     obtain ⟨E, hE⟩ : ∃ E, E = encF f := ⟨_, rfl⟩
     have HEE := Lib.hid hE
     rw [← hE] at RR OKF
     clear hfm hfr hot hbw hil hE htk
     go_upto_region 15 with fail
     go_cut [13] (fun v13 wx => v13 = .int .i64 E ∧ wx.heap[W1.heap.size]? = some (.cells #[.slice Ap f.pool.length cp, .int .i64 f.fl, .int .i64 f.this, .int .i64 f.super, .slice Ai il ci, .slice Af2 f.fds.length cf, .slice Am f.mts.length cm] 94 (0, 0)) ∧ Below W1.heap.size W1 wx)
     case first =>
      go_wp2_with fail
      refine (RR.out _ ((Below.refl _ _).alloc (Nat.le_refl _) _)).mono ?_
      rintro e w2 ⟨rfl, hb2⟩
      have BX := Lib.hid ((hb2.block W1.heap.size (by simp)).trans (hheap_new W1 (.cells #[.slice Ap f.pool.length cp, .int .i64 f.fl, .int .i64 f.this, .int .i64 f.super, .slice Ai il ci, .slice Af2 f.fds.length cf, .slice Am f.mts.length cm] 94)))
      have B3 := Lib.hid (((Below.refl W1.heap.size W1).alloc (Nat.le_refl _) _).trans (hb2.mono (by simp)))
      clear hb2
      go_wp2
      go_meet
      case rel => exact ⟨rfl, BX.out, B3.out⟩
     obtain ⟨rfl, hbx, hb3⟩ := hcut
     obtain ⟨V2, hV2⟩ : ∃ x, x = wc := ⟨_, rfl⟩
     subst hV2
     have BX2 := Lib.hid hbx
     have B3 := Lib.hid hb3
     have k := kcells_of hbx
     have k1 := k 1
     simp only [List.getElem?_toArray, List.getElem?_cons_succ, List.getElem?_cons_zero] at k1
     clear hbx hb3 k z0 z1 z2 z3 z4 z5 z6
     by_cases hE0 : E = 0
     ·have hE1 : (E == 0) = true := by simpa using hE0
      have hE2 : (E != 0) = false := by simpa using hE0
      have HE0 := Lib.hid hE0
      have hE3 := Lib.hid (show encF f = 0 by rw [← HEE.out]; exact hE0)
      obtain ⟨fi, hfi2⟩ : ∃ b, b = decide (f.fl = 3) := ⟨_, rfl⟩
      obtain ⟨fa, hfa2⟩ : ∃ b, b = decide (f.fl ≠ 0) := ⟨_, rfl⟩
      have HFI := Lib.hid hfi2
      have HFA := Lib.hid hfa2
      clear hE0 hfi2 hfa2
      go_upto_region 18 with fail
      go_cut [14] (fun v14 wx => ∃ y, v14 = .pointer (some ⟨y, 0, none⟩) ∧ W1.heap.size < y ∧ wx.heap[y]? = some (.cells #[.string ⟨#[]⟩, .string ⟨#[]⟩, .slice none 0 0, .bool fi, .bool fa, .bool true, .int .i64 (m : Int)] 119 (0, 0)) ∧ wx.heap[W1.heap.size]? = some (.cells #[.slice Ap f.pool.length cp, .int .i64 f.fl, .int .i64 f.this, .int .i64 f.super, .slice Ai il ci, .slice Af2 f.fds.length cf, .slice Am f.mts.length cm] 94 (0, 0)) ∧ Below W1.heap.size W1 wx)
      case first =>
       by_cases h3 : f.fl = 3
       ·have f1 : (f.fl == 3) = true := by simpa using h3
        have f2 : (f.fl != 0) = true := by simp [h3]
        have f3 : (f.fl == 0) = false := by simp [h3]
        have g1 := Lib.hid (show fi = true by rw [HFI.out]; simpa using h3)
        have g2 := Lib.hid (show fa = true by rw [HFA.out]; simp [h3])
        have hfn := Lib.hid h3
        clear h3
        go_wp2
        go_meet
        case rel => exact ⟨_, rfl, by have := lt_of_block BX2.out; omega, by rw [g1.out, g2.out]; exact hheap_new _ _, hheap_alloc_lt BX2.out, B3.out.alloc B3.out.size _⟩
       ·have f1 : (f.fl == 3) = false := by simpa using h3
        have g1 := Lib.hid (show fi = false by rw [HFI.out]; simpa using h3)
        by_cases h0 : f.fl = 0
        ·have f2 : (f.fl != 0) = false := by simpa using h0
         have f3 : (f.fl == 0) = true := by simpa using h0
         have g2 := Lib.hid (show fa = false by rw [HFA.out]; simpa using h0)
         clear h3 h0
         go_wp2
         go_meet
         case rel => exact ⟨_, rfl, by have := lt_of_block BX2.out; omega, by rw [g1.out, g2.out]; exact hheap_new _ _, hheap_alloc_lt BX2.out, B3.out.alloc B3.out.size _⟩
        ·have f2 : (f.fl != 0) = true := by simpa using h0
         have f3 : (f.fl == 0) = false := by simpa using h0
         have g2 := Lib.hid (show fa = true by rw [HFA.out]; simpa using h0)
         clear h3 h0
         go_wp2
         go_meet
         case rel => exact ⟨_, rfl, by have := lt_of_block BX2.out; omega, by rw [g1.out, g2.out]; exact hheap_new _ _, hheap_alloc_lt BX2.out, B3.out.alloc B3.out.size _⟩
      obtain ⟨y, rfl, hy, hcb, hbx, hb3⟩ := hcut
      obtain ⟨V3, hV3⟩ : ∃ x, x = wc := ⟨_, rfl⟩
      subst hV3
      have k := kcells_of hbx
      have k0 := k 0
      have k1' := k 1
      have k2 := k 2
      have k3 := k 3
      have k4 := k 4
      have k5 := k 5
      have k6 := k 6
      simp only [List.getElem?_toArray, List.getElem?_cons_succ, List.getElem?_cons_zero] at k0 k1' k2 k3 k4 k5 k6
      have BX3 := Lib.hid hbx
      have CB3 := Lib.hid hcb
      have B4 := Lib.hid hb3
      clear hbx hcb hb3 k
      go_upto_region 19 with fail
      go_cut [] (fun wx => wx.heap[y]? = some (.cells #[.string (classP f.pool f.this), .string ⟨#[]⟩, .slice none 0 0, .bool fi, .bool fa, .bool true, .int .i64 (m : Int)] 119 (0, 0)) ∧ wx.heap[W1.heap.size]? = some (.cells #[.slice Ap f.pool.length cp, .int .i64 f.fl, .int .i64 f.this, .int .i64 f.super, .slice Ai il ci, .slice Af2 f.fds.length cf, .slice Am f.mts.length cm] 94 (0, 0)) ∧ Below W1.heap.size W1 wx)
      case first =>
       go_wp2_with fail
       refine (CN.out _ B4.out _).mono ?_
       rintro e w3 ⟨rfl, hb⟩
       have cb := (hb.block y (lt_of_block CB3.out)).trans CB3.out
       have c0 := kcells_of cb 0
       have cf := kfree_of cb
       simp only [List.getElem?_toArray, List.getElem?_cons_succ, List.getElem?_cons_zero] at c0
       have CB4 := Lib.hid cb
       have BX4 := Lib.hid ((hb.block _ (lt_of_block BX3.out)).trans BX3.out)
       have B5 := Lib.hid (B4.out.trans (hb.mono B4.out.size))
       clear hb cb
       go_wp2
       go_meet
       case rel => exact ⟨by rw [heap_set_eq CB4.out]; rfl, hheap_set_ne (by show W1.heap.size ≠ y; omega) BX4.out, B5.out.setCell (by show W1.heap.size ≤ y; omega) _⟩
      obtain ⟨hcb, hbx, hb3⟩ := hcut
      obtain ⟨V4, hV4⟩ : ∃ x, x = wc := ⟨_, rfl⟩
      subst hV4
      clear k0 k1' k2 k3 k4 k5 k6 BX3 CB3 B4
      have k := kcells_of hbx
      have k0 := k 0
      have k1' := k 1
      have k2 := k 2
      have k3 := k 3
      have k4 := k 4
      have k5 := k 5
      have k6 := k 6
      simp only [List.getElem?_toArray, List.getElem?_cons_succ, List.getElem?_cons_zero] at k0 k1' k2 k3 k4 k5 k6
      have BX3 := Lib.hid hbx
      have CB3 := Lib.hid hcb
      have B4 := Lib.hid hb3
      clear hbx hcb hb3 k
      go_upto_region 20 with fail
      go_cut [] (fun wx => wx.heap[y]? = some (.cells #[.string (classP f.pool f.this), .string (classP f.pool f.super), .slice none 0 0, .bool fi, .bool fa, .bool true, .int .i64 (m : Int)] 119 (0, 0)) ∧ wx.heap[W1.heap.size]? = some (.cells #[.slice Ap f.pool.length cp, .int .i64 f.fl, .int .i64 f.this, .int .i64 f.super, .slice Ai il ci, .slice Af2 f.fds.length cf, .slice Am f.mts.length cm] 94 (0, 0)) ∧ Below W1.heap.size W1 wx)
      case first =>
       go_wp2_with fail
       refine (CN.out _ B4.out _).mono ?_
       rintro e w3 ⟨rfl, hb⟩
       have cb := (hb.block y (lt_of_block CB3.out)).trans CB3.out
       have c0 := kcells_of cb 1
       have cf := kfree_of cb
       simp only [List.getElem?_toArray, List.getElem?_cons_succ, List.getElem?_cons_zero] at c0
       have CB4 := Lib.hid cb
       have BX4 := Lib.hid ((hb.block _ (lt_of_block BX3.out)).trans BX3.out)
       have B5 := Lib.hid (B4.out.trans (hb.mono B4.out.size))
       clear hb cb
       go_wp2
       go_meet
       case rel => exact ⟨by rw [heap_set_eq CB4.out]; rfl, hheap_set_ne (by show W1.heap.size ≠ y; omega) BX4.out, B5.out.setCell (by show W1.heap.size ≤ y; omega) _⟩
      obtain ⟨hcb, hbx, hb3⟩ := hcut
      obtain ⟨V5, hV5⟩ : ∃ x, x = wc := ⟨_, rfl⟩
      subst hV5
      clear k0 k1' k2 k3 k4 k5 k6 BX3 CB3 B4
      obtain ⟨nmF, hnmF⟩ : ∃ x, x = classP f.pool f.this := ⟨_, rfl⟩
      obtain ⟨spF, hspF⟩ : ∃ x, x = classP f.pool f.super := ⟨_, rfl⟩
      rw [← hnmF, ← hspF] at hcb
      have HNF := Lib.hid hnmF
      have HSF := Lib.hid hspF
      have hz := OKF.out HE0.out
      have hnz : nmF.size ≤ 1000000 := by rw [hnmF]; exact hz.1 _
      have hsz' : spF.size ≤ 1000000 := by rw [hspF]; exact hz.1 _
      have hil' : il ≤ 1000 := by rw [← HIL.out]; exact hz.2
      have HCZ := Lib.hid hz.1
      have HCB := Lib.hid hcb
      have HBX := Lib.hid hbx
      have HBB := Lib.hid hb3
      clear hcb hbx hb3 hnmF hspF hz k1 hE1 hE2
      go_wp2
      go_loopg [15] il (fun g v15 wx => ∃ (k : Nat) (a : Option Addr) (c : Nat), v15 = .int .i64 k ∧ k + g = il ∧ wx.heap[y]? = some (.cells #[.string nmF, .string spF, .slice a k c, .bool fi, .bool fa, .bool true, .int .i64 (m : Int)] 119 (0, 0)) ∧ OwnS wx W1.heap.size (.slice a k c) ((f.ifs.take k).map fun i => L (classP f.pool i)) ∧ wx.heap[W1.heap.size]? = some (.cells #[.slice Ap f.pool.length cp, .int .i64 f.fl, .int .i64 f.this, .int .i64 f.super, .slice Ai il ci, .slice Af2 f.fds.length cf, .slice Am f.mts.length cm] 94 (0, 0)) ∧ Below W1.heap.size W1 wx)
      case atStart => exact ⟨0, none, 0, rfl, by omega, HCB.out, OwnS.nil _ _, HBX.out, HBB.out⟩
      case round =>
       obtain ⟨k, a, c, rfl, hkg, hcb, hos, hbx, hbb⟩ := hrel
       obtain ⟨W2, hW2⟩ : ∃ x, x = wr := ⟨_, rfl⟩
       subst hW2
       obtain ⟨G2, hG2⟩ : ∃ x, x = gk := ⟨_, rfl⟩
       subst hG2
       have CB2 := Lib.hid hcb
       have OS2 := Lib.hid hos
       have BX2' := Lib.hid hbx
       have B4 := Lib.hid hbb
       have ff := kcells_of hbx
       have f0 := ff 0
       have f1 := ff 1
       have f2 := ff 2
       have f3 := ff 3
       have f4 := ff 4
       have f5 := ff 5
       have f6 := ff 6
       simp only [List.getElem?_toArray, List.getElem?_cons_succ, List.getElem?_cons_zero] at f0 f1 f2 f3 f4 f5 f6
       have hbl := lt_of_block hbx
       by_cases hk : k < il
       ·obtain ⟨z, hzk⟩ : ∃ z, f.ifs[k]? = some z := ⟨_, List.getElem?_eq_getElem (by rw [HIL.out]; exact hk)⟩
        have hI := (FI.out.keep (w' := W2) (fun p hp => hbb.cell (p := p) (by omega))).ifs
        rw [HIL.out] at hI
        obtain ⟨bi, oi, rfl, hbi0, hci⟩ := IRow.at_ hI hzk
        have hbi : bi < W2.heap.size := by have := hbb.size; omega
        have HZK := Lib.hid hzk
        clear hcb hos hbx hbb ff hzk hI
        go_upto_region 24 with fail
        go_cut [16, 17] (fun v16 v17 wx => v16 = .string (classP f.pool z) ∧ ∃ u, v17 = u ∧ Below W2.heap.size W2 wx)
        case first =>
         have T0 := (Below.refl W2.heap.size W2).drew
         refine wp_region_held_drew (S := fun V => Below W2.heap.size W2 V) (by kernel_rfl) T0 (fun hS0 => ?_)
         refine wpAnyH_take (i := 0) (oi := ({ dst := some 108, op := Op.load 94 (Operand.tmp 12), type := 94, pos := "ref.go:131", after := #[], guard := none } : Oper)) (v := ?av1) rfl (by kernel_rfl) (by kernel_rfl) (by kernel_rfl) (fun _ _ _ h => h) (Or.inl ⟨by rfl, ?ay1⟩) T0 ?_
         case ay1 => (intro V hSw; have e0 := (hSw.cell (p := ⟨W1.heap.size, 0, none⟩) hbl).trans f0; have e1 := (hSw.cell (p := ⟨W1.heap.size, 1, none⟩) hbl).trans f1; have e2 := (hSw.cell (p := ⟨W1.heap.size, 2, none⟩) hbl).trans f2; have e3 := (hSw.cell (p := ⟨W1.heap.size, 3, none⟩) hbl).trans f3; have e4 := (hSw.cell (p := ⟨W1.heap.size, 4, none⟩) hbl).trans f4; have e5 := (hSw.cell (p := ⟨W1.heap.size, 5, none⟩) hbl).trans f5; have e6 := (hSw.cell (p := ⟨W1.heap.size, 6, none⟩) hbl).trans f6; go_simp; try with_reducible rfl)
         try simp only [pu0, puN, pu1, pu2, pu3]
         refine wpAnyH_take (i := 1) (oi := ({ dst := some 109, op := Op.fieldAddr 94 (Operand.tmp 12) 4, type := 0, pos := "ref.go:131", after := #[], guard := none } : Oper)) (v := ?av2) rfl (by kernel_rfl) (by kernel_rfl) (by kernel_rfl) (fun _ _ _ h => h) (Or.inl ⟨by rfl, ?ay2⟩) T0 ?_
         case ay2 => (intro V hSw; go_simp; try with_reducible rfl)
         try simp only [pu0, puN, pu1, pu2, pu3]
         refine wpAnyH_take (i := 2) (oi := ({ dst := some 110, op := Op.load 29 (Operand.tmp 109), type := 29, pos := "ref.go:131", after := #[{ on := 1, ground := Ground.data }], guard := none } : Oper)) (v := ?av3) rfl (by kernel_rfl) (by kernel_rfl) (by kernel_rfl) (fun _ _ _ h => h) (Or.inl ⟨by rfl, ?ay3⟩) T0 ?_
         case ay3 => (intro V hSw; have e4 := (hSw.cell (p := ⟨W1.heap.size, 4, none⟩) hbl).trans f4; go_simp; try with_reducible rfl)
         try simp only [pu0, puN, pu1, pu2, pu3]
         refine wpAnyH_take (i := 3) (oi := ({ dst := some 111, op := Op.move (Operand.tmp 15), type := 3, pos := "ref.go:131", after := #[], guard := none } : Oper)) (v := ?av4) rfl (by kernel_rfl) (by kernel_rfl) (by kernel_rfl) (fun _ _ _ h => h) (Or.inl ⟨by rfl, ?ay4⟩) T0 ?_
         case ay4 => (intro V hSw; go_simp; try with_reducible rfl)
         try simp only [pu0, puN, pu1, pu2, pu3]
         refine wpAnyH_take (i := 4) (oi := ({ dst := some 112, op := Op.indexAddr 29 (Operand.tmp 110) (Operand.tmp 111), type := 0, pos := "ref.go:131", after := #[{ on := 2, ground := Ground.data }, { on := 3, ground := Ground.data }], guard := none } : Oper)) (v := ?av5) rfl (by kernel_rfl) (by kernel_rfl) (by kernel_rfl) (fun _ _ _ h => h) (Or.inl ⟨by rfl, ?ay5⟩) T0 ?_
         case ay5 => (intro V hSw; go_simp; try with_reducible rfl)
         try simp only [pu0, puN, pu1, pu2, pu3]
         refine wpAnyH_take (i := 5) (oi := ({ dst := some 113, op := Op.load 3 (Operand.tmp 112), type := 3, pos := "ref.go:131", after := #[{ on := 4, ground := Ground.data }], guard := none } : Oper)) (v := ?av6) rfl (by kernel_rfl) (by kernel_rfl) (by kernel_rfl) (fun _ _ _ h => h) (Or.inl ⟨by rfl, ?ay6⟩) T0 ?_
         case ay6 => (intro V hSw; have e0 := (hSw.cell (p := ⟨bi, oi + k, none⟩) hbi).trans hci; go_simp; try with_reducible rfl)
         try simp only [pu0, puN, pu1, pu2, pu3]
         refine wpAnyH_ready (rs := [6]) (by kernel_rfl) (by simp) ?_
         refine (AllReadyH.cons (o := _) rfl (fun K hK => ?_) AllReadyH.nil)
         go_simp
         go_at_call 97
         refine (CN.out _ (B4.out.trans (T0.mono B4.out.size)) _).mono ?_
         rintro e P7 ⟨rfl, hb7⟩
         have T7 := T0.trans (hb7.mono T0.size)
         try go_wp2_with fail
         refine hK.out _ _ T7 (fun hS7 => ?_)
         clear hK K
         try simp only [pu0, puN, pu1, pu2, pu3]
         refine wpAnyH_take (i := 7) (oi := ({ dst := some 107, op := Op.move (Operand.tmp 114), type := 144, pos := "ref.go:131", after := #[{ on := 6, ground := Ground.data }], guard := none } : Oper)) (v := ?av8) rfl (by kernel_rfl) (by kernel_rfl) (by kernel_rfl) (fun _ _ _ h => h) (Or.inl ⟨by rfl, ?ay8⟩) T7 ?_
         case ay8 => (intro V hSw; go_simp; try with_reducible rfl)
         try simp only [pu0, puN, pu1, pu2, pu3]
         refine wpAnyH_take (i := 8) (oi := ({ dst := some 115, op := Op.extract (Operand.tmp 107) 0, type := 9, pos := "ref.go:131", after := #[{ on := 7, ground := Ground.data }], guard := none } : Oper)) (v := ?av9) rfl (by kernel_rfl) (by kernel_rfl) (by kernel_rfl) (fun _ _ _ h => h) (Or.inl ⟨by rfl, ?ay9⟩) T7 ?_
         case ay9 => (intro V hSw; go_simp; try with_reducible rfl)
         try simp only [pu0, puN, pu1, pu2, pu3]
         refine wpAnyH_take (i := 9) (oi := ({ dst := some 116, op := Op.extract (Operand.tmp 107) 1, type := 4, pos := "ref.go:131", after := #[{ on := 7, ground := Ground.data }, { on := 10, ground := Ground.gcOnly Departure.lateStores }], guard := none } : Oper)) (v := ?av10) rfl (by kernel_rfl) (by kernel_rfl) (by kernel_rfl) (fun _ _ _ h => h) (Or.inl ⟨by rfl, ?ay10⟩) T7 ?_
         case ay10 => (intro V hSw; go_simp; try with_reducible rfl)
         try simp only [pu0, puN, pu1, pu2, pu3]
         refine wpAnyH_take (i := 10) (oi := ({ dst := some 16, op := Op.assign (Operand.tmp 115), type := 9, pos := "ref.go:131", after := #[{ on := 8, ground := Ground.data }, { on := 6, ground := Ground.chain }, { on := 0, ground := Ground.phase }, { on := 1, ground := Ground.phase }, { on := 2, ground := Ground.phase }, { on := 3, ground := Ground.phase }, { on := 4, ground := Ground.phase }, { on := 5, ground := Ground.phase }, { on := 6, ground := Ground.phase }, { on := 7, ground := Ground.phase }, { on := 8, ground := Ground.phase }, { on := 9, ground := Ground.textOnly Departure.lateStores }], guard := none } : Oper)) (v := ?av11) rfl (by kernel_rfl) (by kernel_rfl) (by kernel_rfl) (fun _ _ _ h => h) (Or.inl ⟨by rfl, ?ay11⟩) T7 ?_
         case ay11 => (intro V hSw; go_simp; try with_reducible rfl)
         try simp only [pu0, puN, pu1, pu2, pu3]
         refine wpAnyH_take (i := 11) (oi := ({ dst := some 17, op := Op.assign (Operand.tmp 116), type := 4, pos := "ref.go:131", after := #[{ on := 9, ground := Ground.data }, { on := 10, ground := Ground.chain }, { on := 0, ground := Ground.phase }, { on := 1, ground := Ground.phase }, { on := 2, ground := Ground.phase }, { on := 3, ground := Ground.phase }, { on := 4, ground := Ground.phase }, { on := 5, ground := Ground.phase }, { on := 6, ground := Ground.phase }, { on := 7, ground := Ground.phase }, { on := 8, ground := Ground.phase }, { on := 9, ground := Ground.phase }, { on := 10, ground := Ground.phase }], guard := none } : Oper)) (v := ?av12) rfl (by kernel_rfl) (by kernel_rfl) (by kernel_rfl) (fun _ _ _ h => h) (Or.inl ⟨by rfl, ?ay12⟩) T7 ?_
         case ay12 => (intro V hSw; go_simp; try with_reducible rfl)
         try simp only [pu0, puN, pu1, pu2, pu3]
         refine wpAnyH_done (by kernel_rfl) ?_ _
         try go_wp2
         go_meet
         case rel => exact ⟨rfl, _, rfl, T7⟩
        obtain ⟨rfl, u17, rfl, hb5⟩ := hcut
        obtain ⟨W3, hW3⟩ : ∃ x, x = wc := ⟨_, rfl⟩
        subst hW3
        obtain ⟨nmz, hnmz⟩ : ∃ x, x = classP f.pool z := ⟨_, rfl⟩
        have HNZ := Lib.hid hnmz
        have hnzz : nmz.size ≤ 1000000 := by rw [hnmz]; exact HCZ.out _
        rw [← hnmz]
        have CB3 := Lib.hid ((hb5.block y (lt_of_block CB2.out)).trans CB2.out)
        have BX3 := Lib.hid ((hb5.block _ (lt_of_block BX2'.out)).trans BX2'.out)
        have B5 := Lib.hid (B4.out.trans (hb5.mono B4.out.size))
        obtain ⟨ss, hs1, hs2, hs3⟩ := OS2.out.below hb5
        have hsl : ss.length = k := by
         have := congrArg List.length hs1
         rw [List.length_map, List.length_map, List.length_take, HIL.out] at this
         omega
        rw [hsl] at hs3
        have SS := Lib.hid (And.intro hs1 (And.intro hs2 hsl))
        have SO := Lib.hid hs3
        have g2 := kcells_of CB3.out 2
        simp only [List.getElem?_toArray, List.getElem?_cons_succ, List.getElem?_cons_zero] at g2
        have hyl := lt_of_block CB3.out
        have hbs5 := B5.out.size
        clear hb5 hs1 hs2 hs3 hsl hnmz f0 f1 f2 f3 f4 f5 f6 hbl hci hbi
        go_wp2_with (at_builtin; refine hwpList_append_own2 rfl (.tmp 118) (.tmp 120) 45 rfl W1.heap.size 9 i9 (.string ⟨#[]⟩) 1 16 und45c hi9 hy0 hy1 hy2 rfl (by decide) (.slice a k c) k _ rfl (World.ownsRow.alloc SO.out _) ⟨_, 0, none⟩ 1 1 [.string nmz] rfl rfl (knew_at _ [.string nmz] 9 _ (by simp)) (fun u hu => by simp at hu; subst hu; rfl) (by unfold maxLen; omega) (by omega) (by simp; omega) ?_; intro v3 w3 own3 hg3 hm3; have K3 := grown_block hg3 (hheap_alloc_lt CB3.out) (hown_ne SO.out CB3.out (by decide)); have X3 := grown_block hg3 (hheap_alloc_lt BX3.out) (hown_ne SO.out BX3.out (by decide)); have B6 := Below.grown (B5.out.alloc hbs5 _) hg3 (by simp; omega) (fun q hq => hown_block_ge SO.out q hq); obtain ⟨a3, c3, rfl⟩ := hown_form own3; have kn := kcells_of K3 2; have kf := kfree_of K3; simp only [List.getElem?_toArray, List.getElem?_cons_succ, List.getElem?_cons_zero] at kn; have OW3 := Lib.hid own3; have KK3 := Lib.hid K3; have XX3 := Lib.hid X3; have BB6 := Lib.hid B6; clear own3 hg3 hm3 K3 X3 B6)
        go_roundg (G2 - 1)
        case measure => omega
        case rel =>
         obtain ⟨s1, s2, sl⟩ := SS.out
         have hk5 := hkept_set (base := W1.heap.size) KK3.out (by omega) 2 (.slice a3 (k + 1) c3)
         refine ⟨k + 1, a3, c3, by go_num, by omega, by rw [heap_set_eq KK3.out]; rfl, ?_, hheap_set_ne (by show W1.heap.size ≠ y; omega) XX3.out, BB6.out.setCell (by show W1.heap.size ≤ y; omega) _⟩
         rw [List.take_add_one, HZK.out, List.map_append]
         have ow := hown_kept OW3.out (by decide) hk5
         exact OwnS.snoc (wr := w) (v := .bool true) s1 s2 (by rw [HNZ.out]) hnzz (by rw [sl]; exact ow)
       ·have hki : k = il := by omega
        subst hki
        have htk : f.ifs.take k = f.ifs := by rw [← HIL.out, List.take_length]
        rw [htk] at hos
        have OS3 := Lib.hid hos
        have OT4 := Lib.hid (OT3.out.below hbb)
        have hcb0 := kcells_of hcb 0
        simp only [List.getElem?_toArray, List.getElem?_cons_succ, List.getElem?_cons_zero] at hcb0
        have hlen1000 : (cs ++ own).length ≤ 1000 := by rw [List.length_append, TK.out.len, HNN.out]; omega
        have RH := Lib.hid (Rhas_any (OT4.out.table hlen1000) nmF hnz)
        clear hcb hos hbx hbb ff htk f0 f1 f2 f3 f5 f6
        go_wp2_with fail
        refine RH.out.mono ?_
        rintro e w5 ⟨rfl, hb5⟩
        have hname : nmF.data.toList = (pcOf f m).name := by rw [HNF.out]; rfl
        rw [hname]
        have HNAME := Lib.hid hname
        cases hx : ix (cs ++ own) (pcOf f m).name with
        | some w9 =>
         have HOP := Lib.hid (openP_add (by rw [fcs_length]; omega) (TK.out.twice HFM.out hE3.out (by rw [hx]; simp)))
         have B7 := Lib.hid (B2.out.trans ((B4.out.trans (hb5.mono B4.out.size)).mono B2.out.size))
         have hs9 : (some w9 : Option Nat).isSome = true := rfl
         rw [hs9]
         clear hx hb5 hname hs9
         go_wp2
         refine bodyPost_ret (v := .tuple #[.pointer none, .int .i64 15, .int .i64 (m : Int)]) (by simp [results, results60, go_sem]) rfl ?_
         exact ⟨.inl ⟨_, _, HOP.out, rfl⟩, B7.out⟩
        | none =>
         have HTK2 := Lib.hid (TK.out.next HFM.out hE3.out hx)
         have hs9 : (none : Option Nat).isSome = false := rfl
         rw [hs9]
         have OT2 := Lib.hid (OT4.out.below hb5)
         have CBw := Lib.hid ((hb5.block y (lt_of_block CB2.out)).trans CB2.out)
         have B7 := Lib.hid (B2.out.trans ((B4.out.trans (hb5.mono B4.out.size)).mono B2.out.size))
         obtain ⟨V1, hV1⟩ : ∃ x, x = w5 := ⟨_, rfl⟩
         subst hV1
         have hlen : (cs ++ own).length = j + m := by rw [List.length_append, TK.out.len, HNN.out]
         obtain ⟨vs, hv1, hv2, hv3⟩ := OT2.out.own
         rw [hlen] at hv3
         have HR := Lib.hid hv3
         have HLN := Lib.hid hlen
         have HX := Lib.hid (show ClsO w.heap.size V1 (.agg #[.string nmF, .string spF, .slice a k c, .bool fi, .bool fa, .bool true, .int .i64 (m : Int)]) (decide (j ≤ (cs ++ own).length)) (pcOf f m) by
          rw [hlen, decide_eq_true (by omega)]
          have hfn : (pcOf f m).ifaces.length = k := by show (f.ifs.map _).length = k; rw [List.length_map, HIL.out]
          refine ⟨nmF, spF, a, c, by rw [hfn, HFI.out, HFA.out]; rfl, hname, hnz, by rw [HSF.out]; rfl, hsz', ?_, by rw [hfn]; exact hil'⟩
          rw [hfn]
          obtain ⟨ss, s1, s2, s3⟩ := OS3.out.below hb5
          exact .inr ⟨ss, s1, s2, hown_mono s3 B2.out.size⟩)
         have PUSH := Lib.hid (fun (W w' : World) (v' : Value) (hW : Below V1.heap.size V1 W) (hg : W.grownBy w' (Value.slice av (cs ++ own).length cv).ownBlock) (own' : w'.ownsRow w.heap.size 119 7 v' (j + m + 1) (vs.flatMap cagg ++ [.string nmF, .string spF, .slice a k c, .bool fi, .bool fa, .bool true, .int .i64 (m : Int)])) =>
          show OT w.heap.size q v' j (cs ++ (own ++ [pcOf f m])) (w'.setCell ⟨q, 0, none⟩ v') ∧ Below w.heap.size w (w'.setCell ⟨q, 0, none⟩ v') from by
           have P := OT.push (q := q) OT2.out hW HX.out vs hv1 hv2 (by rw [hlen]; exact hv3) hg (by rw [hlen]; exact own')
           rw [← List.append_assoc]
           exact ⟨P.1, B7.out.trans P.2⟩)
         have kk := kcells_of CBw.out
         have k0 := kk 0
         have k1 := kk 1
         have k2 := kk 2
         have k3 := kk 3
         have k4 := kk 4
         have k5 := kk 5
         have k6 := kk 6
         simp only [List.getElem?_toArray, List.getElem?_cons_succ, List.getElem?_cons_zero] at k0 k1 k2 k3 k4 k5 k6
         have q0 : V1.cell? ⟨q, 0, none⟩ = some (.slice av (cs ++ own).length cv) := kcells_of OT2.out.box 0
         have hql := lt_of_block OT2.out.box
         rw [hlen] at q0 PUSH
         have qa : ∀ (n : Nat) (o : Obj), ((V1.drewN n).alloc o).cell? ⟨q, 0, none⟩ = some (.slice av (j + m) cv) := fun n o => (World.cell?_alloc_lt _ _ _ hql).trans q0
         have qb : ∀ (o : Obj), (V1.drew.alloc o).cell? ⟨q, 0, none⟩ = some (.slice av (j + m) cv) := fun o => qa 1 o
         have hsz := B7.out.size
         clear hx hb5 hname hs9 hv1 hv2 hv3 hlen kk f4 hcb0
         go_upto_region 29 with fail
         refine wp_region_any (by kernel_rfl) ?_
         change wpAny _ _ _ _ _ _ _ V1.drew
         refine wpAny_take (i := 0) (oi := ({ dst := some 129, op := Op.move (Operand.tmp 7), type := 36, pos := "ref.go:138", after := #[], guard := none } : Oper)) (v := ?bv11) rfl (by kernel_rfl) (by kernel_rfl) (by kernel_rfl) (fun _ _ _ h => h) (Or.inl ⟨by rfl, ?by11⟩) ?_
         case by11 => (intro V; go_simp; try with_reducible rfl)
         try simp only [pu0, puN, pu1, pu2, pu3]
         refine wpAny_take (i := 1) (oi := ({ dst := some 130, op := Op.move (Operand.tmp 7), type := 36, pos := "ref.go:138", after := #[], guard := none } : Oper)) (v := ?bv12) rfl (by kernel_rfl) (by kernel_rfl) (by kernel_rfl) (fun _ _ _ h => h) (Or.inl ⟨by rfl, ?by12⟩) ?_
         case by12 => (intro V; go_simp; try with_reducible rfl)
         try simp only [pu0, puN, pu1, pu2, pu3]
         refine wpAny_take (i := 2) (oi := ({ dst := some 131, op := Op.nilCheck (Operand.tmp 130), type := 0, pos := "ref.go:138", after := #[{ on := 1, ground := Ground.data }], guard := none } : Oper)) (v := ?bv13) rfl (by kernel_rfl) (by kernel_rfl) (by kernel_rfl) (fun _ _ _ h => h) (Or.inl ⟨by rfl, ?by13⟩) ?_
         case by13 => (intro V; go_simp; try with_reducible rfl)
         try simp only [pu0, puN, pu1, pu2, pu3]
         refine wpAny_take (i := 3) (oi := ({ dst := some 132, op := Op.fieldAddr 105 (Operand.tmp 131) 0, type := 0, pos := "ref.go:138", after := #[{ on := 2, ground := Ground.data }], guard := none } : Oper)) (v := ?bv14) rfl (by kernel_rfl) (by kernel_rfl) (by kernel_rfl) (fun _ _ _ h => h) (Or.inl ⟨by rfl, ?by14⟩) ?_
         case by14 => (intro V; go_simp; try with_reducible rfl)
         try simp only [pu0, puN, pu1, pu2, pu3]
         refine wpAny_ready (rs := [4, 5]) (by kernel_rfl) (by simp) ?_
         refine (AllReady.cons (o := ({ dst := some 133, op := Op.load 102 (Operand.tmp 132), type := 102, pos := "ref.go:138", after := #[{ on := 3, ground := Ground.data }], guard := none } : Oper)) rfl (fun K hK => ?_) (AllReady.cons (o := ({ dst := some 134, op := Op.load 119 (Operand.tmp 14), type := 119, pos := "ref.go:138", after := #[], guard := none } : Oper)) rfl (fun K hK => ?_) AllReady.nil))
         ·have HK := Lib.hid hK
          clear hK
          go_simp
          refine HK.out _ _ ?_
          clear HK K
          try simp only [pu0, puN, pu1, pu2, pu3]
          refine wpAny_ready (rs := [5]) (by kernel_rfl) (by simp) ?_
          refine (AllReady.cons (o := ({ dst := some 134, op := Op.load 119 (Operand.tmp 14), type := 119, pos := "ref.go:138", after := #[], guard := none } : Oper)) rfl (fun K hK => ?_) AllReady.nil)
          have HK := Lib.hid hK
          clear hK
          go_simp
          refine HK.out _ _ ?_
          clear HK K
          try simp only [pu0, puN, pu1, pu2, pu3]
          refine wpAny_ready (rs := [6]) (by kernel_rfl) (by simp) ?_
          refine (AllReady.cons (o := ({ dst := some 135, op := Op.buildSlice 102 1 #[(0, Operand.tmp 134)], type := 102, pos := "ref.go:138", after := #[{ on := 5, ground := Ground.data }], guard := none } : Oper)) rfl (fun K hK => ?_) AllReady.nil)
          have HK := Lib.hid hK
          clear hK
          refine hstep_build119 rfl (.tmp 134) rfl (.string nmF) (.string spF) (.slice a k c) (.bool fi) (.bool fa) (.bool true) (.int .i64 (m : Int)) rfl ?_
          refine HK.out _ _ ?_
          clear HK K
          try simp only [pu0, puN, pu1, pu2, pu3]
          refine wpAny_ready (rs := [7]) (by kernel_rfl) (by simp) ?_
          refine (AllReady.cons (o := ({ dst := some 136, op := Op.call { callee := Callee.builtin Builtin.append, args := #[Operand.tmp 133, Operand.tmp 135], argTypes := #[102, 102] }, type := 102, pos := "ref.go:138", after := #[{ on := 4, ground := Ground.data }, { on := 6, ground := Ground.data }], guard := none } : Oper)) rfl (fun K hK => ?_) AllReady.nil)
          have HK := Lib.hid hK
          clear hK
          refine hstep_append_own2 rfl (.tmp 133) (.tmp 135) 102 rfl w.heap.size 119 i0 (.agg #[.string ⟨#[]⟩, .string ⟨#[]⟩, .slice none 0 0, .bool false, .bool false, .bool false, .int .i64 0]) 7 72 und102 hi0 hz0 hz1 hz2 rfl (by decide) (.slice av (j + m) cv) (j + m) _ rfl (World.ownsRow.alloc HR.out _) ⟨_, 0, none⟩ 1 1 [.string nmF, .string spF, .slice a k c, .bool fi, .bool fa, .bool true, .int .i64 (m : Int)] rfl rfl (knew_at _ [.string nmF, .string spF, .slice a k c, .bool fi, .bool fa, .bool true, .int .i64 (m : Int)] 119 _ (by simp)) (fun u hu => by simp only [List.mem_cons, List.not_mem_nil, or_false] at hu; rcases hu with rfl | rfl | rfl | rfl | rfl | rfl | rfl <;> rfl) (by unfold maxLen; omega) (by omega) (by simp; omega) ?_
          intro v3 w3 own3 hg3 hm3
          have PU := Lib.hid (PUSH.out _ _ _ (((Below.refl _ _).drew).alloc (Nat.le_refl _) _) hg3 own3)
          have K3 := grown_block hg3 (hheap_alloc_lt OT2.out.box) (hown_ne HR.out OT2.out.box (by decide))
          obtain ⟨a3, c3, rfl⟩ := hown_form own3
          have kn := kcells_of K3 0
          have kf := kfree_of K3
          clear own3 hg3 hm3 K3
          refine HK.out _ _ ?_
          clear HK K
          try simp only [pu0, puN, pu1, pu2, pu3]
          refine wpAny_take (i := 8) (oi := ({ dst := some 137, op := Op.nilCheck (Operand.tmp 129), type := 0, pos := "ref.go:138", after := #[{ on := 0, ground := Ground.data }, { on := 0, ground := Ground.phase }, { on := 1, ground := Ground.phase }, { on := 2, ground := Ground.phase }, { on := 3, ground := Ground.phase }, { on := 4, ground := Ground.phase }, { on := 5, ground := Ground.phase }, { on := 6, ground := Ground.phase }, { on := 7, ground := Ground.phase }], guard := none } : Oper)) (v := ?bv15) rfl (by kernel_rfl) (by kernel_rfl) (by kernel_rfl) (fun _ _ _ h => h) (Or.inl ⟨by rfl, ?by15⟩) ?_
          case by15 => (intro V; go_simp; try with_reducible rfl)
          try simp only [pu0, puN, pu1, pu2, pu3]
          refine wpAny_take (i := 9) (oi := ({ dst := some 138, op := Op.fieldAddr 105 (Operand.tmp 137) 0, type := 0, pos := "ref.go:138", after := #[{ on := 8, ground := Ground.data }, { on := 0, ground := Ground.phase }, { on := 1, ground := Ground.phase }, { on := 2, ground := Ground.phase }, { on := 3, ground := Ground.phase }, { on := 4, ground := Ground.phase }, { on := 5, ground := Ground.phase }, { on := 6, ground := Ground.phase }, { on := 7, ground := Ground.phase }], guard := none } : Oper)) (v := ?bv16) rfl (by kernel_rfl) (by kernel_rfl) (by kernel_rfl) (fun _ _ _ h => h) (Or.inl ⟨by rfl, ?by16⟩) ?_
          case by16 => (intro V; go_simp; try with_reducible rfl)
          try simp only [pu0, puN, pu1, pu2, pu3]
          refine wpAny_ready (rs := [10]) (by kernel_rfl) (by simp) ?_
          refine (AllReady.cons (o := ({ dst := none, op := Op.store 102 (Operand.tmp 138) (Operand.tmp 136), type := 0, pos := "ref.go:138", after := #[{ on := 9, ground := Ground.data }, { on := 7, ground := Ground.data }, { on := 7, ground := Ground.chain }, { on := 0, ground := Ground.phase }, { on := 1, ground := Ground.phase }, { on := 2, ground := Ground.phase }, { on := 3, ground := Ground.phase }, { on := 4, ground := Ground.phase }, { on := 5, ground := Ground.phase }, { on := 6, ground := Ground.phase }, { on := 7, ground := Ground.phase }], guard := none } : Oper)) rfl (fun K hK => ?_) AllReady.nil)
          have HK := Lib.hid hK
          clear hK
          go_simp
          refine HK.out _ _ ?_
          clear HK K
          try simp only [pu0, puN, pu1, pu2, pu3]
          refine wpAny_done (by kernel_rfl) ?_ _
          try go_wp2
          go_roundg (G1 - 1)
          case measure => omega
          case rel => exact ⟨m + 1, _, own ++ [pcOf f m], by go_num, by omega, HTK2.out, PU.out.1, PU.out.2⟩
         ·have HK := Lib.hid hK
          clear hK
          go_simp
          refine HK.out _ _ ?_
          clear HK K
          try simp only [pu0, puN, pu1, pu2, pu3]
          refine wpAny_ready (rs := [4, 6]) (by kernel_rfl) (by simp) ?_
          refine (AllReady.cons (o := ({ dst := some 133, op := Op.load 102 (Operand.tmp 132), type := 102, pos := "ref.go:138", after := #[{ on := 3, ground := Ground.data }], guard := none } : Oper)) rfl (fun K hK => ?_) (AllReady.cons (o := ({ dst := some 135, op := Op.buildSlice 102 1 #[(0, Operand.tmp 134)], type := 102, pos := "ref.go:138", after := #[{ on := 5, ground := Ground.data }], guard := none } : Oper)) rfl (fun K hK => ?_) AllReady.nil))
          ·have HK := Lib.hid hK
           clear hK
           go_simp
           refine HK.out _ _ ?_
           clear HK K
           try simp only [pu0, puN, pu1, pu2, pu3]
           refine wpAny_ready (rs := [6]) (by kernel_rfl) (by simp) ?_
           refine (AllReady.cons (o := ({ dst := some 135, op := Op.buildSlice 102 1 #[(0, Operand.tmp 134)], type := 102, pos := "ref.go:138", after := #[{ on := 5, ground := Ground.data }], guard := none } : Oper)) rfl (fun K hK => ?_) AllReady.nil)
           have HK := Lib.hid hK
           clear hK
           refine hstep_build119 rfl (.tmp 134) rfl (.string nmF) (.string spF) (.slice a k c) (.bool fi) (.bool fa) (.bool true) (.int .i64 (m : Int)) rfl ?_
           refine HK.out _ _ ?_
           clear HK K
           try simp only [pu0, puN, pu1, pu2, pu3]
           refine wpAny_ready (rs := [7]) (by kernel_rfl) (by simp) ?_
           refine (AllReady.cons (o := ({ dst := some 136, op := Op.call { callee := Callee.builtin Builtin.append, args := #[Operand.tmp 133, Operand.tmp 135], argTypes := #[102, 102] }, type := 102, pos := "ref.go:138", after := #[{ on := 4, ground := Ground.data }, { on := 6, ground := Ground.data }], guard := none } : Oper)) rfl (fun K hK => ?_) AllReady.nil)
           have HK := Lib.hid hK
           clear hK
           refine hstep_append_own2 rfl (.tmp 133) (.tmp 135) 102 rfl w.heap.size 119 i0 (.agg #[.string ⟨#[]⟩, .string ⟨#[]⟩, .slice none 0 0, .bool false, .bool false, .bool false, .int .i64 0]) 7 72 und102 hi0 hz0 hz1 hz2 rfl (by decide) (.slice av (j + m) cv) (j + m) _ rfl (World.ownsRow.alloc HR.out _) ⟨_, 0, none⟩ 1 1 [.string nmF, .string spF, .slice a k c, .bool fi, .bool fa, .bool true, .int .i64 (m : Int)] rfl rfl (knew_at _ [.string nmF, .string spF, .slice a k c, .bool fi, .bool fa, .bool true, .int .i64 (m : Int)] 119 _ (by simp)) (fun u hu => by simp only [List.mem_cons, List.not_mem_nil, or_false] at hu; rcases hu with rfl | rfl | rfl | rfl | rfl | rfl | rfl <;> rfl) (by unfold maxLen; omega) (by omega) (by simp; omega) ?_
           intro v3 w3 own3 hg3 hm3
           have PU := Lib.hid (PUSH.out _ _ _ (((Below.refl _ _).drew).alloc (Nat.le_refl _) _) hg3 own3)
           have K3 := grown_block hg3 (hheap_alloc_lt OT2.out.box) (hown_ne HR.out OT2.out.box (by decide))
           obtain ⟨a3, c3, rfl⟩ := hown_form own3
           have kn := kcells_of K3 0
           have kf := kfree_of K3
           clear own3 hg3 hm3 K3
           refine HK.out _ _ ?_
           clear HK K
           try simp only [pu0, puN, pu1, pu2, pu3]
           refine wpAny_take (i := 8) (oi := ({ dst := some 137, op := Op.nilCheck (Operand.tmp 129), type := 0, pos := "ref.go:138", after := #[{ on := 0, ground := Ground.data }, { on := 0, ground := Ground.phase }, { on := 1, ground := Ground.phase }, { on := 2, ground := Ground.phase }, { on := 3, ground := Ground.phase }, { on := 4, ground := Ground.phase }, { on := 5, ground := Ground.phase }, { on := 6, ground := Ground.phase }, { on := 7, ground := Ground.phase }], guard := none } : Oper)) (v := ?bv17) rfl (by kernel_rfl) (by kernel_rfl) (by kernel_rfl) (fun _ _ _ h => h) (Or.inl ⟨by rfl, ?by17⟩) ?_
           case by17 => (intro V; go_simp; try with_reducible rfl)
           try simp only [pu0, puN, pu1, pu2, pu3]
           refine wpAny_take (i := 9) (oi := ({ dst := some 138, op := Op.fieldAddr 105 (Operand.tmp 137) 0, type := 0, pos := "ref.go:138", after := #[{ on := 8, ground := Ground.data }, { on := 0, ground := Ground.phase }, { on := 1, ground := Ground.phase }, { on := 2, ground := Ground.phase }, { on := 3, ground := Ground.phase }, { on := 4, ground := Ground.phase }, { on := 5, ground := Ground.phase }, { on := 6, ground := Ground.phase }, { on := 7, ground := Ground.phase }], guard := none } : Oper)) (v := ?bv18) rfl (by kernel_rfl) (by kernel_rfl) (by kernel_rfl) (fun _ _ _ h => h) (Or.inl ⟨by rfl, ?by18⟩) ?_
           case by18 => (intro V; go_simp; try with_reducible rfl)
           try simp only [pu0, puN, pu1, pu2, pu3]
           refine wpAny_ready (rs := [10]) (by kernel_rfl) (by simp) ?_
           refine (AllReady.cons (o := ({ dst := none, op := Op.store 102 (Operand.tmp 138) (Operand.tmp 136), type := 0, pos := "ref.go:138", after := #[{ on := 9, ground := Ground.data }, { on := 7, ground := Ground.data }, { on := 7, ground := Ground.chain }, { on := 0, ground := Ground.phase }, { on := 1, ground := Ground.phase }, { on := 2, ground := Ground.phase }, { on := 3, ground := Ground.phase }, { on := 4, ground := Ground.phase }, { on := 5, ground := Ground.phase }, { on := 6, ground := Ground.phase }, { on := 7, ground := Ground.phase }], guard := none } : Oper)) rfl (fun K hK => ?_) AllReady.nil)
           have HK := Lib.hid hK
           clear hK
           go_simp
           refine HK.out _ _ ?_
           clear HK K
           try simp only [pu0, puN, pu1, pu2, pu3]
           refine wpAny_done (by kernel_rfl) ?_ _
           try go_wp2
           go_roundg (G1 - 1)
           case measure => omega
           case rel => exact ⟨m + 1, _, own ++ [pcOf f m], by go_num, by omega, HTK2.out, PU.out.1, PU.out.2⟩
          ·have HK := Lib.hid hK
           clear hK
           refine hstep_build119 rfl (.tmp 134) rfl (.string nmF) (.string spF) (.slice a k c) (.bool fi) (.bool fa) (.bool true) (.int .i64 (m : Int)) rfl ?_
           refine HK.out _ _ ?_
           clear HK K
           try simp only [pu0, puN, pu1, pu2, pu3]
           refine wpAny_ready (rs := [4]) (by kernel_rfl) (by simp) ?_
           refine (AllReady.cons (o := ({ dst := some 133, op := Op.load 102 (Operand.tmp 132), type := 102, pos := "ref.go:138", after := #[{ on := 3, ground := Ground.data }], guard := none } : Oper)) rfl (fun K hK => ?_) AllReady.nil)
           have HK := Lib.hid hK
           clear hK
           go_simp
           refine HK.out _ _ ?_
           clear HK K
           try simp only [pu0, puN, pu1, pu2, pu3]
           refine wpAny_ready (rs := [7]) (by kernel_rfl) (by simp) ?_
           refine (AllReady.cons (o := ({ dst := some 136, op := Op.call { callee := Callee.builtin Builtin.append, args := #[Operand.tmp 133, Operand.tmp 135], argTypes := #[102, 102] }, type := 102, pos := "ref.go:138", after := #[{ on := 4, ground := Ground.data }, { on := 6, ground := Ground.data }], guard := none } : Oper)) rfl (fun K hK => ?_) AllReady.nil)
           have HK := Lib.hid hK
           clear hK
           refine hstep_append_own2 rfl (.tmp 133) (.tmp 135) 102 rfl w.heap.size 119 i0 (.agg #[.string ⟨#[]⟩, .string ⟨#[]⟩, .slice none 0 0, .bool false, .bool false, .bool false, .int .i64 0]) 7 72 und102 hi0 hz0 hz1 hz2 rfl (by decide) (.slice av (j + m) cv) (j + m) _ rfl (World.ownsRow.alloc HR.out _) ⟨_, 0, none⟩ 1 1 [.string nmF, .string spF, .slice a k c, .bool fi, .bool fa, .bool true, .int .i64 (m : Int)] rfl rfl (knew_at _ [.string nmF, .string spF, .slice a k c, .bool fi, .bool fa, .bool true, .int .i64 (m : Int)] 119 _ (by simp)) (fun u hu => by simp only [List.mem_cons, List.not_mem_nil, or_false] at hu; rcases hu with rfl | rfl | rfl | rfl | rfl | rfl | rfl <;> rfl) (by unfold maxLen; omega) (by omega) (by simp; omega) ?_
           intro v3 w3 own3 hg3 hm3
           have PU := Lib.hid (PUSH.out _ _ _ (((Below.refl _ _).drew).alloc (Nat.le_refl _) _) hg3 own3)
           have K3 := grown_block hg3 (hheap_alloc_lt OT2.out.box) (hown_ne HR.out OT2.out.box (by decide))
           obtain ⟨a3, c3, rfl⟩ := hown_form own3
           have kn := kcells_of K3 0
           have kf := kfree_of K3
           clear own3 hg3 hm3 K3
           refine HK.out _ _ ?_
           clear HK K
           try simp only [pu0, puN, pu1, pu2, pu3]
           refine wpAny_take (i := 8) (oi := ({ dst := some 137, op := Op.nilCheck (Operand.tmp 129), type := 0, pos := "ref.go:138", after := #[{ on := 0, ground := Ground.data }, { on := 0, ground := Ground.phase }, { on := 1, ground := Ground.phase }, { on := 2, ground := Ground.phase }, { on := 3, ground := Ground.phase }, { on := 4, ground := Ground.phase }, { on := 5, ground := Ground.phase }, { on := 6, ground := Ground.phase }, { on := 7, ground := Ground.phase }], guard := none } : Oper)) (v := ?bv19) rfl (by kernel_rfl) (by kernel_rfl) (by kernel_rfl) (fun _ _ _ h => h) (Or.inl ⟨by rfl, ?by19⟩) ?_
           case by19 => (intro V; go_simp; try with_reducible rfl)
           try simp only [pu0, puN, pu1, pu2, pu3]
           refine wpAny_take (i := 9) (oi := ({ dst := some 138, op := Op.fieldAddr 105 (Operand.tmp 137) 0, type := 0, pos := "ref.go:138", after := #[{ on := 8, ground := Ground.data }, { on := 0, ground := Ground.phase }, { on := 1, ground := Ground.phase }, { on := 2, ground := Ground.phase }, { on := 3, ground := Ground.phase }, { on := 4, ground := Ground.phase }, { on := 5, ground := Ground.phase }, { on := 6, ground := Ground.phase }, { on := 7, ground := Ground.phase }], guard := none } : Oper)) (v := ?bv20) rfl (by kernel_rfl) (by kernel_rfl) (by kernel_rfl) (fun _ _ _ h => h) (Or.inl ⟨by rfl, ?by20⟩) ?_
           case by20 => (intro V; go_simp; try with_reducible rfl)
           try simp only [pu0, puN, pu1, pu2, pu3]
           refine wpAny_ready (rs := [10]) (by kernel_rfl) (by simp) ?_
           refine (AllReady.cons (o := ({ dst := none, op := Op.store 102 (Operand.tmp 138) (Operand.tmp 136), type := 0, pos := "ref.go:138", after := #[{ on := 9, ground := Ground.data }, { on := 7, ground := Ground.data }, { on := 7, ground := Ground.chain }, { on := 0, ground := Ground.phase }, { on := 1, ground := Ground.phase }, { on := 2, ground := Ground.phase }, { on := 3, ground := Ground.phase }, { on := 4, ground := Ground.phase }, { on := 5, ground := Ground.phase }, { on := 6, ground := Ground.phase }, { on := 7, ground := Ground.phase }], guard := none } : Oper)) rfl (fun K hK => ?_) AllReady.nil)
           have HK := Lib.hid hK
           clear hK
           go_simp
           refine HK.out _ _ ?_
           clear HK K
           try simp only [pu0, puN, pu1, pu2, pu3]
           refine wpAny_done (by kernel_rfl) ?_ _
           try go_wp2
           go_roundg (G1 - 1)
           case measure => omega
           case rel => exact ⟨m + 1, _, own ++ [pcOf f m], by go_num, by omega, HTK2.out, PU.out.1, PU.out.2⟩
     ·have hE1 : (E == 0) = false := by simpa using hE0
      have hE2 : (E != 0) = true := by simpa using hE0
      have HOP := Lib.hid (openP_add (by rw [fcs_length]; omega) (TK.out.wrong HFM.out (by rw [← HEE.out]; exact hE0)))
      clear hE0
      go_wp2
      refine bodyPost_ret (v := .tuple #[.pointer none, .int .i64 E, .int .i64 (m : Int)]) (by simp [results, results60, go_sem]) rfl ?_
      refine ⟨.inl ⟨_, _, HOP.out, ?_⟩, B2.out.trans (B3.out.mono B2.out.size)⟩
      rw [encF_nat, ← HEE.out]
    ·have hmn : m = fs.length := by omega
     subst hmn
     obtain ⟨ds, hds⟩ : ∃ x, x = cs ++ own := ⟨_, rfl⟩
     rw [← hds] at hot
     have hdl : ds.length = j + fs.length := by rw [hds, List.length_append, htk.len, HNN.out]
     have hdf : ds.length ≤ 1000 := by omega
     have TB := Lib.hid (hot.table hdf)
     have HDS := Lib.hid hds
     have HDL := Lib.hid hdl
     have hadd := htk.ends
     rw [← hds] at hadd
     have HAD := Lib.hid hadd
     have HDI := Lib.hid (addP_ok _ _ _ _ hadd HG.out.apart).2.1
     have HNM := Lib.hid htk.named
     have hqw1 := lt_of_block hot.box
     rw [← hds] at OT3
     clear hot htk hds hdl hadd TK
     go_wp2
     go_loopg [19] fs.length (fun g v19 wx => ∃ i : Nat, v19 = .int .i64 i ∧ i + g = fs.length ∧ firstE (kindE ds) (ds.drop (j + i)) i = firstE (kindE ds) (ds.drop j) 0 ∧ Below W1.heap.size W1 wx)
     case atStart => exact ⟨0, rfl, by omega, rfl, Below.refl _ _⟩
     case round => as_aux_lemma =>
      obtain ⟨i, rfl, hig, hfe, hb⟩ := hrel
      obtain ⟨W2, hW2⟩ : ∃ x, x = wr := ⟨_, rfl⟩
      subst hW2
      obtain ⟨G2, hG2⟩ : ∃ x, x = gk := ⟨_, rfl⟩
      subst hG2
      have B5 := Lib.hid hb
      have FE := Lib.hid hfe
      have TB2 := Lib.hid (TB.out.below hb)
      by_cases hi : i < fs.length
      ·obtain ⟨c, hcx⟩ : ∃ c, ds[j + i]? = some c := ⟨_, List.getElem?_eq_getElem (by rw [HDL.out]; omega)⟩
       have c0 := TB2.out.cell
       obtain ⟨b, o, s0, t0, a, ca, rfl, hbb, d0, d1, d2, d3, d4, d5, d6, q1, q2, q3, q4, q5, q6⟩ := TB2.out.row.at_ hcx
       rw [HDL.out] at c0
       rw [decide_eq_true (show j ≤ j + i by omega)] at d5
       have KD := Lib.hid (Rkind_any TB2.out c s0 t0 a ca true q5 hb.size q3 q4 q6)
       have HCX := Lib.hid hcx
       have hw1 : IntKind.i64.wrap ((j : Int) + i) = ((j + i : Nat) : Int) := by rw [IntWalk.i64_in _ (by omega)]; omega
       obtain ⟨E, hE⟩ : ∃ E : Nat, E = kindE ds c := ⟨_, rfl⟩
       have HEK := Lib.hid hE
       rw [← hE] at KD
       have hnat : (((j + i : Nat) : Int)) = (j : Int) + i := by omega
       clear hcx q1 q3 q5 hb hfe hE hnat
       go_wp2_with fail
       refine KD.out.mono ?_
       rintro e w5 ⟨rfl, hb5⟩
       have B7 := Lib.hid (B5.out.trans (hb5.mono B5.out.size))
       clear hb5
       by_cases hz : E = 0
       ·have HZ := Lib.hid (show kindE ds c = 0 by rw [← HEK.out]; exact hz)
        subst hz
        go_wp2
        go_roundg (G2 - 1)
        case measure => omega
        case rel =>
         refine ⟨i + 1, by go_num, by omega, ?_, B7.out⟩
         have e : (ds.drop j)[i]? = some c := by rw [List.getElem?_drop]; exact HCX.out
         rw [← FE.out, show ds.drop (j + (i + 1)) = (ds.drop j).drop (i + 1) by rw [List.drop_drop], show ds.drop (j + i) = (ds.drop j).drop i by rw [List.drop_drop], firstE_next e, if_neg (by simp [HZ.out])]
       ·have hne : (((E : Nat) : Int) == 0) = false := by simpa using hz
        have hne2 : (((E : Nat) : Int) != 0) = true := by simpa using hz
        have HZ := Lib.hid (show kindE ds c ≠ 0 by rw [← HEK.out]; exact hz)
        clear hz
        go_wp2
        refine bodyPost_ret (v := .tuple #[.pointer none, .int .i64 ((E : Nat) : Int), .int .i64 (i : Int)]) (by simp [results, results60, go_sem]) rfl ?_
        have hff : firstE (kindE ds) (ds.drop cs.length) 0 = some (kindE ds c, i) := by
         have e : (ds.drop j)[i]? = some c := by rw [List.getElem?_drop]; exact HCX.out
         rw [HNN.out, ← FE.out, show ds.drop (j + i) = (ds.drop j).drop i by rw [List.drop_drop], firstE_next e, if_pos HZ.out]
        refine ⟨.inl ⟨_, _, openP_kind (by rw [fcs_length]; omega) HAD.out hff, by rw [HEK.out]⟩, B2.out.trans (B7.out.mono B2.out.size)⟩
      ·have hil : i = fs.length := by omega
       subst hil
       have hnone : firstE (kindE ds) (ds.drop cs.length) 0 = none := by
        rw [HNN.out, ← FE.out, List.drop_of_length_le (by rw [HDL.out]; exact Nat.le_refl _)]
        rfl
       have HNO := Lib.hid hnone
       have HLK := Lib.hid (show Lkd ds from lkd_of (fun d hd => by
         rw [HDS.out] at hd
         rcases List.mem_append.1 hd with hd | hd
         ·exact HG.out.named d hd
         ·exact HNM.out d hd) (fun k d hd => by
         by_cases hk : k < cs.length
         ·have hd2 : cs[k]? = some d := by rw [HDS.out, get_app hk] at hd; exact hd
          by_cases h0 : k = 0
          ·subst h0
           rw [HG.out.obj] at hd2
           cases hd2
           exact .inr ⟨rfl, rfl⟩
          ·left
           rw [HDS.out]
           exact kind_app (HG.out.kind k d hd2 h0)
         ·left
          exact firstE_none (kindE ds) _ _ hnone d (by
           rw [List.mem_iff_getElem?]
           exact ⟨k - cs.length, by rw [List.getElem?_drop, show cs.length + (k - cs.length) = k by omega]; exact hd⟩)))
       clear hb hfe hnone
       go_wp2
       go_loopg [21] fs.length (fun g v21 wx => ∃ i : Nat, v21 = .int .i64 i ∧ i + g = fs.length ∧ firstR ds j (fs.length - i) i = firstR ds j fs.length 0 ∧ Below W2.heap.size W2 wx)
       case atStart => exact ⟨0, rfl, by omega, rfl, Below.refl _ _⟩
       case round => as_aux_lemma =>
        obtain ⟨i, rfl, hig, hfr, hb⟩ := hrel
        obtain ⟨W3, hW3⟩ : ∃ x, x = wr := ⟨_, rfl⟩
        subst hW3
        obtain ⟨G3, hG3⟩ : ∃ x, x = gk := ⟨_, rfl⟩
        subst hG3
        have B6 := Lib.hid hb
        have FR := Lib.hid hfr
        have TB3 := Lib.hid (TB2.out.below (hb.mono (by have := B5.out.size; exact this)))
        have BW3 := Lib.hid (B2.out.trans ((B5.out.trans (hb.mono B5.out.size)).mono B2.out.size))
        by_cases hi : i < fs.length
        ·obtain ⟨c, hcx⟩ : ∃ c, ds[j + i]? = some c := ⟨_, List.getElem?_eq_getElem (by rw [HDL.out]; omega)⟩
         have c0 := TB3.out.cell
         obtain ⟨b, o, s0, t0, a, ca, rfl, hbb, d0, d1, d2, d3, d4, d5, d6, q1, q2, q3, q4, q5, q6⟩ := TB3.out.row.at_ hcx
         rw [HDL.out] at c0
         have hix : ix ds s0.data.toList = some (j + i) := by rw [q1]; exact ix_of HDI.out hcx
         have HIX := Lib.hid hix
         have AB := Lib.hid (fun W (hb : Below W2.heap.size W2 W) => RAbove_any (TB2.out.link hb) HLK.out s0 s0 q2 q2 hix)
         have hw1 : IntKind.i64.wrap ((j : Int) + i) = ((j + i : Nat) : Int) := by rw [IntWalk.i64_in _ (by omega)]; omega
         have hqw : q < W3.heap.size := lt_of_block TB3.out.box
         have hge : (0 : Int) ≤ (j : Int) + (i : Int) := by omega
         have htn : ((j : Int) + (i : Int)).toNat = j + i := by omega
         have hlt2 : (j : Int) + (i : Int) < (j : Int) + (fs.length : Int) := by omega
         have hbw : b < W3.heap.size := by have := B6.out.size; have := B5.out.size; omega
         clear hcx q1 q3 q5 hb hfr hix d1 d2 d3 d4 d5 d6
         go_upto_region 39 with fail
         go_cut [22] (fun v22 wx => ∃ r : Bool, v22 = .bool r ∧ (r = true ↔ ∃ k, ix ds s0.data.toList = some k ∧ Abv ds (j + i) k) ∧ Below W3.heap.size W3 wx)
         case first =>
          have T0 := (Below.refl W3.heap.size W3).drew
          refine wp_region_held_drew (S := fun V => Below W3.heap.size W3 V) (by kernel_rfl) T0 (fun hS0 => ?_)
          refine wpAnyH_take (i := 0) (oi := ({ dst := some 166, op := Op.move (Operand.tmp 7), type := 36, pos := "ref.go:147", after := #[], guard := none } : Oper)) (v := ?av13) rfl (by kernel_rfl) (by kernel_rfl) (by kernel_rfl) (fun _ _ _ h => h) (Or.inl ⟨by rfl, ?ay13⟩) T0 ?_
          case ay13 => (intro V hSw; go_simp; try with_reducible rfl)
          try simp only [pu0, puN, pu1, pu2, pu3]
          refine wpAnyH_take (i := 1) (oi := ({ dst := some 167, op := Op.move (Operand.tmp 7), type := 36, pos := "ref.go:147", after := #[], guard := none } : Oper)) (v := ?av14) rfl (by kernel_rfl) (by kernel_rfl) (by kernel_rfl) (fun _ _ _ h => h) (Or.inl ⟨by rfl, ?ay14⟩) T0 ?_
          case ay14 => (intro V hSw; go_simp; try with_reducible rfl)
          try simp only [pu0, puN, pu1, pu2, pu3]
          refine wpAnyH_take (i := 2) (oi := ({ dst := some 168, op := Op.nilCheck (Operand.tmp 167), type := 0, pos := "ref.go:147", after := #[{ on := 1, ground := Ground.data }], guard := none } : Oper)) (v := ?av15) rfl (by kernel_rfl) (by kernel_rfl) (by kernel_rfl) (fun _ _ _ h => h) (Or.inl ⟨by rfl, ?ay15⟩) T0 ?_
          case ay15 => (intro V hSw; go_simp; try with_reducible rfl)
          try simp only [pu0, puN, pu1, pu2, pu3]
          refine wpAnyH_take (i := 3) (oi := ({ dst := some 169, op := Op.fieldAddr 105 (Operand.tmp 168) 0, type := 0, pos := "ref.go:147", after := #[{ on := 2, ground := Ground.data }], guard := none } : Oper)) (v := ?av16) rfl (by kernel_rfl) (by kernel_rfl) (by kernel_rfl) (fun _ _ _ h => h) (Or.inl ⟨by rfl, ?ay16⟩) T0 ?_
          case ay16 => (intro V hSw; go_simp; try with_reducible rfl)
          try simp only [pu0, puN, pu1, pu2, pu3]
          refine wpAnyH_take (i := 4) (oi := ({ dst := some 170, op := Op.load 102 (Operand.tmp 169), type := 102, pos := "ref.go:147", after := #[{ on := 3, ground := Ground.data }], guard := none } : Oper)) (v := ?av17) rfl (by kernel_rfl) (by kernel_rfl) (by kernel_rfl) (fun _ _ _ h => h) (Or.inl ⟨by rfl, ?ay17⟩) T0 ?_
          case ay17 => (intro V hSw; have e0 := (hSw.cell (p := ⟨q, 0, none⟩) hqw).trans c0; go_simp; try with_reducible rfl)
          try simp only [pu0, puN, pu1, pu2, pu3]
          refine wpAnyH_take (i := 5) (oi := ({ dst := some 171, op := Op.move (Operand.tmp 10), type := 3, pos := "ref.go:147", after := #[], guard := none } : Oper)) (v := ?av18) rfl (by kernel_rfl) (by kernel_rfl) (by kernel_rfl) (fun _ _ _ h => h) (Or.inl ⟨by rfl, ?ay18⟩) T0 ?_
          case ay18 => (intro V hSw; go_simp; try with_reducible rfl)
          try simp only [pu0, puN, pu1, pu2, pu3]
          refine wpAnyH_take (i := 6) (oi := ({ dst := some 172, op := Op.move (Operand.tmp 21), type := 3, pos := "ref.go:147", after := #[], guard := none } : Oper)) (v := ?av19) rfl (by kernel_rfl) (by kernel_rfl) (by kernel_rfl) (fun _ _ _ h => h) (Or.inl ⟨by rfl, ?ay19⟩) T0 ?_
          case ay19 => (intro V hSw; go_simp; try with_reducible rfl)
          try simp only [pu0, puN, pu1, pu2, pu3]
          refine wpAnyH_take (i := 7) (oi := ({ dst := some 173, op := Op.binOp BinOp.add 3 (Operand.tmp 171) (Operand.tmp 172) 3, type := 3, pos := "ref.go:147", after := #[{ on := 5, ground := Ground.data }, { on := 6, ground := Ground.data }], guard := none } : Oper)) (v := ?av20) rfl (by kernel_rfl) (by kernel_rfl) (by kernel_rfl) (fun _ _ _ h => h) (Or.inl ⟨by rfl, ?ay20⟩) T0 ?_
          case ay20 => (intro V hSw; go_simp; try with_reducible rfl)
          try simp only [pu0, puN, pu1, pu2, pu3]
          refine wpAnyH_take (i := 8) (oi := ({ dst := some 174, op := Op.indexAddr 102 (Operand.tmp 170) (Operand.tmp 173), type := 0, pos := "ref.go:147", after := #[{ on := 4, ground := Ground.data }, { on := 7, ground := Ground.data }], guard := none } : Oper)) (v := ?av21) rfl (by kernel_rfl) (by kernel_rfl) (by kernel_rfl) (fun _ _ _ h => h) (Or.inl ⟨by rfl, ?ay21⟩) T0 ?_
          case ay21 => (intro V hSw; go_simp; try with_reducible rfl)
          try simp only [pu0, puN, pu1, pu2, pu3]
          refine wpAnyH_take (i := 9) (oi := ({ dst := some 175, op := Op.fieldAddr 119 (Operand.tmp 174) 0, type := 0, pos := "ref.go:147", after := #[{ on := 8, ground := Ground.data }], guard := none } : Oper)) (v := ?av22) rfl (by kernel_rfl) (by kernel_rfl) (by kernel_rfl) (fun _ _ _ h => h) (Or.inl ⟨by rfl, ?ay22⟩) T0 ?_
          case ay22 => (intro V hSw; go_simp; try with_reducible rfl)
          try simp only [pu0, puN, pu1, pu2, pu3]
          refine wpAnyH_take (i := 10) (oi := ({ dst := some 176, op := Op.load 9 (Operand.tmp 175), type := 9, pos := "ref.go:147", after := #[{ on := 9, ground := Ground.data }], guard := none } : Oper)) (v := ?av23) rfl (by kernel_rfl) (by kernel_rfl) (by kernel_rfl) (fun _ _ _ h => h) (Or.inl ⟨by rfl, ?ay23⟩) T0 ?_
          case ay23 => (intro V hSw; have e0 := (hSw.cell (p := ⟨b, o + (j + i) * 7, none⟩) hbw).trans d0; go_simp; try with_reducible rfl)
          try simp only [pu0, puN, pu1, pu2, pu3]
          refine wpAnyH_take (i := 11) (oi := ({ dst := some 177, op := Op.move (Operand.tmp 7), type := 36, pos := "ref.go:147", after := #[], guard := none } : Oper)) (v := ?av24) rfl (by kernel_rfl) (by kernel_rfl) (by kernel_rfl) (fun _ _ _ h => h) (Or.inl ⟨by rfl, ?ay24⟩) T0 ?_
          case ay24 => (intro V hSw; go_simp; try with_reducible rfl)
          try simp only [pu0, puN, pu1, pu2, pu3]
          refine wpAnyH_take (i := 12) (oi := ({ dst := some 178, op := Op.nilCheck (Operand.tmp 177), type := 0, pos := "ref.go:147", after := #[{ on := 11, ground := Ground.data }], guard := none } : Oper)) (v := ?av25) rfl (by kernel_rfl) (by kernel_rfl) (by kernel_rfl) (fun _ _ _ h => h) (Or.inl ⟨by rfl, ?ay25⟩) T0 ?_
          case ay25 => (intro V hSw; go_simp; try with_reducible rfl)
          try simp only [pu0, puN, pu1, pu2, pu3]
          refine wpAnyH_take (i := 13) (oi := ({ dst := some 179, op := Op.fieldAddr 105 (Operand.tmp 178) 0, type := 0, pos := "ref.go:147", after := #[{ on := 12, ground := Ground.data }], guard := none } : Oper)) (v := ?av26) rfl (by kernel_rfl) (by kernel_rfl) (by kernel_rfl) (fun _ _ _ h => h) (Or.inl ⟨by rfl, ?ay26⟩) T0 ?_
          case ay26 => (intro V hSw; go_simp; try with_reducible rfl)
          try simp only [pu0, puN, pu1, pu2, pu3]
          refine wpAnyH_take (i := 14) (oi := ({ dst := some 180, op := Op.load 102 (Operand.tmp 179), type := 102, pos := "ref.go:147", after := #[{ on := 13, ground := Ground.data }], guard := none } : Oper)) (v := ?av27) rfl (by kernel_rfl) (by kernel_rfl) (by kernel_rfl) (fun _ _ _ h => h) (Or.inl ⟨by rfl, ?ay27⟩) T0 ?_
          case ay27 => (intro V hSw; have e0 := (hSw.cell (p := ⟨q, 0, none⟩) hqw).trans c0; go_simp; try with_reducible rfl)
          try simp only [pu0, puN, pu1, pu2, pu3]
          refine wpAnyH_take (i := 15) (oi := ({ dst := some 181, op := Op.move (Operand.tmp 10), type := 3, pos := "ref.go:147", after := #[], guard := none } : Oper)) (v := ?av28) rfl (by kernel_rfl) (by kernel_rfl) (by kernel_rfl) (fun _ _ _ h => h) (Or.inl ⟨by rfl, ?ay28⟩) T0 ?_
          case ay28 => (intro V hSw; go_simp; try with_reducible rfl)
          try simp only [pu0, puN, pu1, pu2, pu3]
          refine wpAnyH_take (i := 16) (oi := ({ dst := some 182, op := Op.move (Operand.tmp 21), type := 3, pos := "ref.go:147", after := #[], guard := none } : Oper)) (v := ?av29) rfl (by kernel_rfl) (by kernel_rfl) (by kernel_rfl) (fun _ _ _ h => h) (Or.inl ⟨by rfl, ?ay29⟩) T0 ?_
          case ay29 => (intro V hSw; go_simp; try with_reducible rfl)
          try simp only [pu0, puN, pu1, pu2, pu3]
          refine wpAnyH_take (i := 17) (oi := ({ dst := some 183, op := Op.binOp BinOp.add 3 (Operand.tmp 181) (Operand.tmp 182) 3, type := 3, pos := "ref.go:147", after := #[{ on := 15, ground := Ground.data }, { on := 16, ground := Ground.data }], guard := none } : Oper)) (v := ?av30) rfl (by kernel_rfl) (by kernel_rfl) (by kernel_rfl) (fun _ _ _ h => h) (Or.inl ⟨by rfl, ?ay30⟩) T0 ?_
          case ay30 => (intro V hSw; go_simp; try with_reducible rfl)
          try simp only [pu0, puN, pu1, pu2, pu3]
          refine wpAnyH_take (i := 18) (oi := ({ dst := some 184, op := Op.indexAddr 102 (Operand.tmp 180) (Operand.tmp 183), type := 0, pos := "ref.go:147", after := #[{ on := 14, ground := Ground.data }, { on := 17, ground := Ground.data }], guard := none } : Oper)) (v := ?av31) rfl (by kernel_rfl) (by kernel_rfl) (by kernel_rfl) (fun _ _ _ h => h) (Or.inl ⟨by rfl, ?ay31⟩) T0 ?_
          case ay31 => (intro V hSw; go_simp; try with_reducible rfl)
          try simp only [pu0, puN, pu1, pu2, pu3]
          refine wpAnyH_take (i := 19) (oi := ({ dst := some 185, op := Op.fieldAddr 119 (Operand.tmp 184) 0, type := 0, pos := "ref.go:147", after := #[{ on := 18, ground := Ground.data }], guard := none } : Oper)) (v := ?av32) rfl (by kernel_rfl) (by kernel_rfl) (by kernel_rfl) (fun _ _ _ h => h) (Or.inl ⟨by rfl, ?ay32⟩) T0 ?_
          case ay32 => (intro V hSw; go_simp; try with_reducible rfl)
          try simp only [pu0, puN, pu1, pu2, pu3]
          refine wpAnyH_take (i := 20) (oi := ({ dst := some 186, op := Op.load 9 (Operand.tmp 185), type := 9, pos := "ref.go:147", after := #[{ on := 19, ground := Ground.data }], guard := none } : Oper)) (v := ?av33) rfl (by kernel_rfl) (by kernel_rfl) (by kernel_rfl) (fun _ _ _ h => h) (Or.inl ⟨by rfl, ?ay33⟩) T0 ?_
          case ay33 => (intro V hSw; have e0 := (hSw.cell (p := ⟨b, o + (j + i) * 7, none⟩) hbw).trans d0; go_simp; try with_reducible rfl)
          try simp only [pu0, puN, pu1, pu2, pu3]
          refine wpAnyH_ready (rs := [21]) (by kernel_rfl) (by simp) ?_
          refine (AllReadyH.cons (o := _) rfl (fun K hK => ?_) AllReadyH.nil)
          go_simp
          go_at_call 76
          refine (AB.out _ (B6.out.trans (T0.mono B6.out.size))).mono ?_
          rintro e P34 ⟨⟨r, rfl, hr⟩, hb34⟩
          have HRr := Lib.hid hr
          have T34 := T0.trans (hb34.mono T0.size)
          clear hr
          try go_wp2_with fail
          refine hK.out _ _ T34 (fun hS34 => ?_)
          clear hK K
          try simp only [pu0, puN, pu1, pu2, pu3]
          refine wpAnyH_take (i := 22) (oi := ({ dst := some 22, op := Op.assign (Operand.tmp 187), type := 4, pos := "ref.go:147", after := #[{ on := 21, ground := Ground.data }, { on := 21, ground := Ground.chain }, { on := 0, ground := Ground.phase }, { on := 1, ground := Ground.phase }, { on := 2, ground := Ground.phase }, { on := 3, ground := Ground.phase }, { on := 4, ground := Ground.phase }, { on := 5, ground := Ground.phase }, { on := 6, ground := Ground.phase }, { on := 7, ground := Ground.phase }, { on := 8, ground := Ground.phase }, { on := 9, ground := Ground.phase }, { on := 10, ground := Ground.phase }, { on := 11, ground := Ground.phase }, { on := 12, ground := Ground.phase }, { on := 13, ground := Ground.phase }, { on := 14, ground := Ground.phase }, { on := 15, ground := Ground.phase }, { on := 16, ground := Ground.phase }, { on := 17, ground := Ground.phase }, { on := 18, ground := Ground.phase }, { on := 19, ground := Ground.phase }, { on := 20, ground := Ground.phase }, { on := 21, ground := Ground.phase }], guard := none } : Oper)) (v := ?av35) rfl (by kernel_rfl) (by kernel_rfl) (by kernel_rfl) (fun _ _ _ h => h) (Or.inl ⟨by rfl, ?ay35⟩) T34 ?_
          case ay35 => (intro V hSw; go_simp; try with_reducible rfl)
          try simp only [pu0, puN, pu1, pu2, pu3]
          refine wpAnyH_done (by kernel_rfl) ?_ _
          try go_wp2
          go_meet
          case rel => exact ⟨_, rfl, HRr.out, T34⟩
         obtain ⟨r, rfl, hr, hb7⟩ := hcut
         have hr2 : r = true ↔ Abv ds (j + i) (j + i) := by
          rw [hr, HIX.out]
          constructor
          ·rintro ⟨k, hk, h⟩
           cases hk
           exact h
          ·intro h
           exact ⟨_, rfl, h⟩
         have HR2 := Lib.hid hr2
         have B8 := Lib.hid (B6.out.trans (hb7.mono B6.out.size))
         have BW4 := Lib.hid (BW3.out.trans (hb7.mono BW3.out.size))
         clear hr hr2 hb7 c0 d0
         cases r with
         | true =>
          go_wp2
          refine bodyPost_ret (v := .tuple #[.pointer none, .int .i64 16, .int .i64 (i : Int)]) (by simp [results, results60, go_sem]) rfl ?_
          have hrr := (firstR_next hi FR.out).1 (HR2.out.1 (by simp))
          refine ⟨.inl ⟨16, i, openP_round (by rw [fcs_length]; omega) HAD.out HNO.out (by rw [HNN.out, fcs_length]; exact hrr), rfl⟩, BW4.out⟩
         | false =>
          go_wp2
          go_roundg (G3 - 1)
          case measure => omega
          case rel => exact ⟨i + 1, by go_num, by omega, (firstR_next hi FR.out).2 (fun h => by have := HR2.out.2 h; cases this), B8.out⟩
        ·have hil : i = fs.length := by omega
         subst hil
         clear hb hfr
         go_wp2
         refine bodyPost_ret (v := .tuple #[.pointer (some ⟨q, 0, none⟩), .int .i64 0, .int .i64 0]) (by simp [results, results60, go_sem]) rfl ?_
         refine ⟨.inr ⟨ds, q, av, cv, openP_done (by rw [fcs_length]; omega) HAD.out HNO.out ?_, rfl, ?_⟩, BW3.out⟩
         ·rw [HNN.out, fcs_length, ← FR.out, Nat.sub_self]
          rfl
         ·rw [HNN.out]
          obtain ⟨t1, t2, t3, ⟨vs, v1, v2, v3⟩, t5⟩ := TB3.out
          have hle : W1.heap.size ≤ W3.heap.size := by have := B6.out.size; have := B5.out.size; omega
          exact ⟨Nat.le_refl _, Nat.lt_of_lt_of_le t2 hle, t3, ⟨vs, v1, fun k d x a b => (v2 k d x a b).more hle, v3.more hle⟩, t5⟩
end
end Go.Proofs.YtmaknddlgppinaaGreatDoor
