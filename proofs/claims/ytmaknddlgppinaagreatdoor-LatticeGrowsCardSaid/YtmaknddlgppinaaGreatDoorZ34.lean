/-
  CUT and joined from the texts of this seat: Rk
-/
import Derived.Test.YtmaknddlgppinaaGreatDoorZ33
set_option linter.unusedVariables false
set_option linter.unusedSimpArgs false
namespace Go.Proofs.YtmaknddlgppinaaGreatDoor
open Go.RowKit
/-- A row of texts: of before, or the call's own. -/
def IfAt (base : Nat) (w : World) (v : Value) (ns : List (List UInt8)) : Prop := SRow base w v ns ∨ OwnS w base v ns
theorem IfAt.kept {T : TypeId} {base : Nat} {w w' : World} {v : Value} {ns : List (List UInt8)} (h : IfAt base w v ns) (hk : HKept T base w w') (h9 : 9 ≠ T) : IfAt base w' v ns := by
 rcases h with h | ⟨ss, h1, h2, h3⟩
 ·exact .inl (h.keep fun p hp => hk.below.cell hp)
 ·exact .inr ⟨ss, h1, h2, hown_kept h3 h9 hk⟩
theorem IfAt.row {base : Nat} {w : World} {v : Value} {ns : List (List UInt8)} (h : IfAt base w v ns) (hB : base ≤ w.heap.size) : SRow w.heap.size w v ns := by
 rcases h with ⟨ss, h1, h2, h3⟩ | h
 ·exact ⟨ss, h1, h2, h3.more hB⟩
 ·exact h.row
/-- A class with such a row. -/
def ClsO (base : Nat) (w : World) (x : Value) (own : Bool) (c : PC) : Prop :=
 ∃ (s t : ByteArray) (a : Option Addr) (cap : Nat), x = .agg #[.string s, .string t, .slice a c.ifaces.length cap, .bool c.iface, .bool c.abs, .bool own, .int .i64 c.at_] ∧
  s.data.toList = c.name ∧ s.size ≤ 1000000 ∧ t.data.toList = c.super ∧ t.size ≤ 1000000 ∧ IfAt base w (.slice a c.ifaces.length cap) c.ifaces ∧ c.ifaces.length ≤ 1000
theorem ClsO.kept {T : TypeId} {base : Nat} {w w' : World} {x : Value} {own : Bool} {c : PC} (h : ClsO base w x own c) (hk : HKept T base w w') (h9 : 9 ≠ T) : ClsO base w' x own c := by
 obtain ⟨s, t, a, cap, h0, h1, h2, h3, h4, h5, h6⟩ := h
 exact ⟨s, t, a, cap, h0, h1, h2, h3, h4, h5.kept hk h9, h6⟩
theorem ClsO.at_ {base : Nat} {w : World} {x : Value} {own : Bool} {c : PC} (h : ClsO base w x own c) (hB : base ≤ w.heap.size) : ClsAt w.heap.size w x own c := by
 obtain ⟨s, t, a, cap, h0, h1, h2, h3, h4, h5, h6⟩ := h
 exact ⟨s, t, a, cap, h0, h1, h2, h3, h4, h5.row hB, h6⟩
/-- A row of classes that the call owns. -/
def OwnCs (w : World) (base : Nat) (v : Value) (ow : Nat) (cs : List PC) : Prop :=
 ∃ vs : List Value, vs.length = cs.length ∧ (∀ (i : Nat) (c : PC) (x : Value), cs[i]? = some c → vs[i]? = some x → ClsO base w x (decide (ow ≤ i)) c) ∧ w.ownsRow base 119 7 v cs.length (vs.flatMap cagg)
theorem OwnCs.nil (w : World) (base ow : Nat) : OwnCs w base (.slice none 0 0) ow [] := ⟨[], rfl, by simp, World.ownsRow_nil _ _ _ _⟩
theorem OwnCs.form {w : World} {base ow : Nat} {v : Value} {cs : List PC} (h : OwnCs w base v ow cs) : ∃ a c, v = .slice a cs.length c := by
 obtain ⟨vs, _, _, h⟩ := h
 exact hown_form h
theorem OwnCs.row {w : World} {base ow : Nat} {v : Value} {cs : List PC} (h : OwnCs w base v ow cs) (hB : base ≤ w.heap.size) : CsRow w.heap.size w v ow cs := by
 obtain ⟨vs, h1, h2, h3⟩ := h
 exact ⟨vs, h1, fun i c x a b => (h2 i c x a b).at_ hB, Row.hof_own h3⟩
theorem OwnCs.kept {T : TypeId} {w w' : World} {base ow : Nat} {v : Value} {cs : List PC} (h : OwnCs w base v ow cs) (hk : HKept T base w w') (h9 : 9 ≠ T) (h119 : 119 ≠ T) : OwnCs w' base v ow cs := by
 obtain ⟨vs, h1, h2, h3⟩ := h
 exact ⟨vs, h1, fun i c x a b => (h2 i c x a b).kept hk h9, hown_kept h3 h119 hk⟩
theorem OwnCs.below {w w' : World} {base ow : Nat} {v : Value} {cs : List PC} (h : OwnCs w base v ow cs) (hB : base ≤ w.heap.size) (hb : Below w.heap.size w w') : OwnCs w' base v ow cs :=
 h.kept (T := 1000) (HKept.of_below hb hB) (by decide) (by decide)
/-- One more behind all others. -/
theorem OwnCs.snoc {w w' : World} {base ow : Nat} {v v' : Value} {cs : List PC} {vs : List Value} (h1 : vs.length = cs.length) (h2 : ∀ (i : Nat) (c : PC) (x : Value), cs[i]? = some c → vs[i]? = some x → ClsO base w x (decide (ow ≤ i)) c) (h3 : w.ownsRow base 119 7 v cs.length (vs.flatMap cagg)) {c : PC} {x : Value}
  (hx : ClsO base w x (decide (ow ≤ cs.length)) c) (hB : base ≤ w.heap.size) (hg : w.grownBy w' v.ownBlock) (own' : w'.ownsRow base 119 7 v' (cs.length + 1) (vs.flatMap cagg ++ cagg x)) : OwnCs w' base v' ow (cs ++ [c]) := by
 have hk := hown_grown h3 hB hg
 refine ⟨vs ++ [x], by simp [h1], fun i g y hi hy => ?_, ?_⟩
 ·by_cases hlt : i < cs.length
  ·rw [List.getElem?_append_left hlt] at hi
   rw [List.getElem?_append_left (by omega)] at hy
   exact (h2 i g y hi hy).kept hk (by decide)
  ·have hi' := (List.getElem?_eq_some_iff.1 hi).1
   simp at hi'
   have e : i = cs.length := by omega
   subst e
   rw [List.getElem?_append_right (Nat.le_refl _)] at hi
   rw [List.getElem?_append_right (by omega), h1] at hy
   simp at hi hy
   subst hi; subst hy
   exact hx.kept hk (by decide)
 ·rw [List.flatMap_append, List.length_append]
  simpa using own'
/-- A cell of one block of another type is set: the row stays. -/
theorem hkept_set {T : TypeId} {base q : Nat} {w : World} {cs : Array Value} {m : Nat × Nat} (hq : w.heap[q]? = some (.cells cs T m)) (hb : base ≤ q) (i : Nat) (u : Value) : HKept T base w (w.setCell ⟨q, i, none⟩ u) := by
 refine ⟨(Below.refl _ _).setCell hb u, fun k ds t n ht hk => ?_⟩
 refine (Below.heap_setCell _ _ _ _ ?_).trans hk
 intro e
 subst e
 rw [hq] at hk
 cases hk
 exact ht rfl
/-- The document's table under construction. -/
structure OT (base q : Nat) (v : Value) (ow : Nat) (cs : List PC) (w : World) : Prop where
 box : w.heap[q]? = some (.cells #[v] 105 (0, 0))
 own : OwnCs w base v ow cs
 hq : base ≤ q
 hB : base ≤ w.heap.size
theorem OT.below {base q ow : Nat} {v : Value} {cs : List PC} {w w' : World} (h : OT base q v ow cs w) (hb : Below w.heap.size w w') : OT base q v ow cs w' :=
 ⟨(hb.block q (lt_of_block h.box)).trans h.box, h.own.below h.hB hb, h.hq, Nat.le_trans h.hB hb.size⟩
theorem OT.table {base q ow : Nat} {A : Option Addr} {cap : Nat} {cs : List PC} {w : World} (h : OT base q (.slice A cs.length cap) ow cs w) (hf : cs.length ≤ 1000) : RT w.heap.size q A cap cs ow w :=
 ⟨Nat.le_refl _, lt_of_block h.box, h.box, h.own.row h.hB, hf⟩
/-- A class appended, the row stored. -/
theorem OT.push {base q ow : Nat} {v v' : Value} {cs : List PC} {w W w' : World} (h : OT base q v ow cs w) (hW : Below w.heap.size w W) {c : PC} {x : Value} (hx : ClsO base w x (decide (ow ≤ cs.length)) c) (vs : List Value) (h1 : vs.length = cs.length) (h2 : ∀ (i : Nat) (c : PC) (x : Value), cs[i]? = some c → vs[i]? = some x → ClsO base w x (decide (ow ≤ i)) c) (h3 : w.ownsRow base 119 7 v cs.length (vs.flatMap cagg))
  (hg : W.grownBy w' v.ownBlock) (own' : w'.ownsRow base 119 7 v' (cs.length + 1) (vs.flatMap cagg ++ cagg x)) : OT base q v' ow (cs ++ [c]) (w'.setCell ⟨q, 0, none⟩ v') ∧ Below base w (w'.setCell ⟨q, 0, none⟩ v') := by
 have h' := h.below hW
 have k0 : HKept 1000 base w W := HKept.of_below hW h.hB
 have h3' : W.ownsRow base 119 7 v cs.length (vs.flatMap cagg) := hown_kept h3 (by decide) k0
 have hk := hown_grown h3' h'.hB hg
 have hb := grown_block hg h'.box (hown_ne h3' h'.box (by decide))
 have hs := OwnCs.snoc h1 (fun i c x a b => (h2 i c x a b).kept k0 (by decide)) h3' (hx.kept k0 (by decide)) h'.hB hg own'
 have hk2 := hkept_set hb h.hq 0 v'
 refine ⟨⟨by rw [heap_set_eq hb]; rfl, hs.kept hk2 (by decide) (by decide), h.hq, Nat.le_trans h'.hB (Nat.le_trans hk.below.size hk2.below.size)⟩, ((hW.mono h.hB).trans hk.below).trans hk2.below⟩
theorem info119 : ∃ i, Tryz.prog.info? 119 = some i ∧ i.zero = some (.agg #[.string ⟨#[]⟩, .string ⟨#[]⟩, .slice none 0 0, .bool false, .bool false, .bool false, .int .i64 0]) ∧ i.size = 7 ∧ i.bytes = 72 := info_parts (by kernel_rfl)
theorem und102 : Tryz.prog.underlying 102 = some (.slice 119) := by kernel_rfl
theorem fill119 (x0 x1 x2 x3 x4 x5 x6 : Value) : Instr.fill (fun i => some (i * 7, 7)) ((Array.range (1 * 7)).map (fun x => ((Value.agg #[Value.string ⟨#[]⟩, .string ⟨#[]⟩, .slice none 0 0, .bool false, .bool false, .bool false, .int .i64 0]).cells)[x % ((Value.agg #[Value.string ⟨#[]⟩, .string ⟨#[]⟩, .slice none 0 0, .bool false, .bool false, .bool false, .int .i64 0]).cells).size]!)) [(0, .agg #[x0, x1, x2, x3, x4, x5, x6])] = some #[x0, x1, x2, x3, x4, x5, x6] := by
 kernel_rfl
set_option maxRecDepth 1000000 in
set_option maxHeartbeats 400000 in
theorem run_build119 (x0 x1 x2 x3 x4 x5 x6 : Value) (w : World) :
  (Instr.buildSlice 102 1 #[(0, .agg #[x0, x1, x2, x3, x4, x5, x6])]).run Tryz.prog w = .ok (.slice (some ⟨w.heap.size, 0, none⟩) 1 1) (w.alloc (.cells #[x0, x1, x2, x3, x4, x5, x6] 119)) := by
 have hu : (underlying 102).run Tryz.prog w = .ok (.slice 119) w := run_underlying Tryz.underlying102 w
 unfold Instr.buildSlice
 have h0 : ¬ (1 * 7 > 2 ^ 24) := by decide
 have h1 : ¬ (1 * 7 = 0) := by decide
 simp only [Sem.run_bind, hu, Result.andThen_ok, Tryz.sizeOf119, if_neg h0, if_neg h1, Sem.run_pure, Tryz.zeroValue119, fill119]
 rfl
theorem hwp_build119 {w : World} {o : Oper} {a : Act} {K : Act → World → Prop} {Q : Exit → Act → World → Prop} (x : Operand) (ho : o.op = .buildSlice 102 1 #[(0, x)]) (x0 x1 x2 x3 x4 x5 x6 : Value)
  (hx : a.eval x = .agg #[x0, x1, x2, x3, x4, x5, x6]) (h : K (a.put o.dst (.slice (some ⟨w.heap.size, 0, none⟩) 1 1)) (w.alloc (.cells #[x0, x1, x2, x3, x4, x5, x6] 119))) : o.wp Tryz.prog a w K Q := by
 have hr := run_build119 x0 x1 x2 x3 x4 x5 x6 w
 unfold Oper.wp execOp
 simp only [ho]
 simp only [List.map_toArray, List.map_cons, List.map_nil, hx]
 simp only [Sem.run_bind, hr, Result.andThen_ok, Sem.run_pure]
 exact h
theorem hwpList_build119 {w : World} {ops : Array Oper} {rest : List Oper} {o : Oper} {a : Act} {Q : Exit → Act → World → Prop} (hgd : o.guard = none) (x : Operand) (ho : o.op = .buildSlice 102 1 #[(0, x)]) (x0 x1 x2 x3 x4 x5 x6 : Value)
  (hx : a.eval x = .agg #[x0, x1, x2, x3, x4, x5, x6]) (h : wpList Tryz.prog ops Q rest (a.put o.dst (.slice (some ⟨w.heap.size, 0, none⟩) 1 1)) (w.alloc (.cells #[x0, x1, x2, x3, x4, x5, x6] 119))) : wpList Tryz.prog ops Q (o :: rest) a w :=
 wpList_plain hgd fun _ hK => hwp_build119 x ho x0 x1 x2 x3 x4 x5 x6 hx (hK _ _ h)
theorem hstep_build119 {ops : Array Oper} {w : World} {o : Oper} {a : Act} {K : Act → World → Prop} {Q : Exit → Act → World → Prop} {E : Prop} (hgd : o.guard = none) (x : Operand) (ho : o.op = .buildSlice 102 1 #[(0, x)]) (x0 x1 x2 x3 x4 x5 x6 : Value)
  (hx : a.eval x = .agg #[x0, x1, x2, x3, x4, x5, x6]) (h : K (a.put o.dst (.slice (some ⟨w.heap.size, 0, none⟩) 1 1)) (w.alloc (.cells #[x0, x1, x2, x3, x4, x5, x6] 119))) :
  if Region.wanted o (yielded ops a.tmps) = true then Oper.wp Tryz.prog o a w K Q else E := by
 have hw : Region.wanted o (yielded ops a.tmps) = true := by simp [Region.wanted, hgd]
 rw [if_pos hw]
 exact hwp_build119 x ho x0 x1 x2 x3 x4 x5 x6 hx h
end Go.Proofs.YtmaknddlgppinaaGreatDoor
