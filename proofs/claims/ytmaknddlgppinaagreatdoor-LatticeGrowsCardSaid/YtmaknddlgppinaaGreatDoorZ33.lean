/-
  CUT and joined from the texts of this seat: Ra Rb
-/
import Derived.Test.YtmaknddlgppinaaGreatDoorZ11
import Derived.Test.YtmaknddlgppinaaGreatDoorZ32
import Derived.Test.YtmaknddlgppinaaGreatDoorZ20
set_option linter.unusedVariables false
set_option linter.unusedSimpArgs false
namespace Go.Proofs.YtmaknddlgppinaaGreatDoor
open Go.RowKit
def cagg : Value → List Value
 | .agg cs => cs.toList
 | _ => []
theorem flat_cagg {vs : List Value} {k : Nat} {x : Value} (h7 : ∀ y ∈ vs, (cagg y).length = 7) (hk : vs[k]? = some x) : ∀ j, j < 7 → (vs.flatMap cagg)[k * 7 + j]? = (cagg x)[j]? := by
 induction vs generalizing k with
 | nil => simp at hk
 | cons y r ih =>
  intro j hj
  have hy := h7 y (by simp)
  cases k with
  | zero =>
   simp only [List.getElem?_cons_zero, Option.some.injEq] at hk
   subst hk
   rw [List.flatMap_cons, Nat.zero_mul, Nat.zero_add, List.getElem?_append_left (by rw [hy]; exact hj)]
  | succ k =>
   simp only [List.getElem?_cons_succ] at hk
   rw [List.flatMap_cons, List.getElem?_append_right (by rw [hy, Nat.succ_mul]; omega), hy, show (k + 1) * 7 + j - 7 = k * 7 + j by rw [Nat.succ_mul]; omega]
   exact ih (fun z hz => h7 z (by simp [hz])) hk j hj
/-- A class as the document's table holds it. -/
def ClsAt (B : Nat) (w : World) (x : Value) (own : Bool) (c : PC) : Prop :=
 ∃ (s t : ByteArray) (a : Option Addr) (cap : Nat), x = .agg #[.string s, .string t, .slice a c.ifaces.length cap, .bool c.iface, .bool c.abs, .bool own, .int .i64 c.at_] ∧
  s.data.toList = c.name ∧ s.size ≤ 1000000 ∧ t.data.toList = c.super ∧ t.size ≤ 1000000 ∧ SRow B w (.slice a c.ifaces.length cap) c.ifaces ∧ c.ifaces.length ≤ 1000
theorem ClsAt.keep {B : Nat} {w w' : World} {x : Value} {own : Bool} {c : PC} (h : ClsAt B w x own c) (hk : ∀ p : Addr, p.block < B → w'.cell? p = w.cell? p) : ClsAt B w' x own c := by
 obtain ⟨s, t, a, cap, h0, h1, h2, h3, h4, h5, h6⟩ := h
 exact ⟨s, t, a, cap, h0, h1, h2, h3, h4, h5.keep hk, h6⟩
theorem ClsAt.more {B B' : Nat} {w : World} {x : Value} {own : Bool} {c : PC} (h : ClsAt B w x own c) (hB : B ≤ B') : ClsAt B' w x own c := by
 obtain ⟨s, t, a, cap, h0, h1, h2, h3, h4, ⟨ss, k1, k2, k3⟩, h6⟩ := h
 exact ⟨s, t, a, cap, h0, h1, h2, h3, h4, ⟨ss, k1, k2, k3.more hB⟩, h6⟩
theorem ClsAt.seven {B : Nat} {w : World} {x : Value} {own : Bool} {c : PC} (h : ClsAt B w x own c) : (cagg x).length = 7 := by
 obtain ⟨s, t, a, cap, rfl, _⟩ := h
 rfl
/-- A row of classes; those from ow on are its own. -/
def CsRow (B : Nat) (w : World) (v : Value) (ow : Nat) (cs : List PC) : Prop :=
 ∃ vs : List Value, vs.length = cs.length ∧ (∀ (i : Nat) (c : PC) (x : Value), cs[i]? = some c → vs[i]? = some x → ClsAt B w x (decide (ow ≤ i)) c) ∧ Row B 7 w v cs.length (vs.flatMap cagg)
theorem CsRow.keep {B ow : Nat} {w w' : World} {v : Value} {cs : List PC} (h : CsRow B w v ow cs) (hk : ∀ p : Addr, p.block < B → w'.cell? p = w.cell? p) : CsRow B w' v ow cs := by
 obtain ⟨vs, h1, h2, h3⟩ := h
 exact ⟨vs, h1, fun i c x a b => (h2 i c x a b).keep hk, h3.keep hk⟩
theorem CsRow.at_ {B ow : Nat} {w : World} {A : Option Addr} {n cap k : Nat} {cs : List PC} {c : PC} (h : CsRow B w (.slice A n cap) ow cs) (hk : cs[k]? = some c) :
  ∃ b o s t a ca, A = some ⟨b, o, none⟩ ∧ b < B ∧ w.cell? ⟨b, o + k * 7, none⟩ = some (.string s) ∧ w.cell? ⟨b, o + k * 7 + 1, none⟩ = some (.string t) ∧ w.cell? ⟨b, o + k * 7 + 2, none⟩ = some (.slice a c.ifaces.length ca) ∧
   w.cell? ⟨b, o + k * 7 + 3, none⟩ = some (.bool c.iface) ∧ w.cell? ⟨b, o + k * 7 + 4, none⟩ = some (.bool c.abs) ∧ w.cell? ⟨b, o + k * 7 + 5, none⟩ = some (.bool (decide (ow ≤ k))) ∧ w.cell? ⟨b, o + k * 7 + 6, none⟩ = some (.int .i64 c.at_) ∧
   s.data.toList = c.name ∧ s.size ≤ 1000000 ∧ t.data.toList = c.super ∧ t.size ≤ 1000000 ∧ SRow B w (.slice a c.ifaces.length ca) c.ifaces ∧ c.ifaces.length ≤ 1000 := by
 obtain ⟨vs, hl, hr, A', cap', e, _, _, _, h2⟩ := h
 injection e with e1 e2 e3
 subst e1
 have hlt : k < cs.length := (List.getElem?_eq_some_iff.1 hk).1
 obtain ⟨b, o, e, hb, hc⟩ := h2 (by omega)
 have hv : vs[k]? = some (vs[k]'(by omega)) := List.getElem?_eq_getElem (by omega)
 have h7 : ∀ y ∈ vs, (cagg y).length = 7 := by
  intro y hy
  obtain ⟨i, hi, rfl⟩ := List.getElem_of_mem hy
  have hf : cs[i]? = some (cs[i]'(by omega)) := List.getElem?_eq_getElem (by omega)
  exact (hr i _ _ hf (List.getElem?_eq_getElem hi)).seven
 obtain ⟨s, t, a, ca, ex, q1, q2, q3, q4, q5, q6⟩ := hr k c _ hk hv
 have key : ∀ j u, j < 7 → (cagg (vs[k]'(by omega)))[j]? = some u → w.cell? ⟨b, o + k * 7 + j, none⟩ = some u := fun j u hj hu => by
  rw [Nat.add_assoc]
  exact hc _ _ ((flat_cagg h7 hv j hj).trans hu)
 rw [ex] at key
 exact ⟨b, o, s, t, a, ca, e, hb, key 0 _ (by omega) rfl, key 1 _ (by omega) rfl, key 2 _ (by omega) rfl, key 3 _ (by omega) rfl, key 4 _ (by omega) rfl, key 5 _ (by omega) rfl, key 6 _ (by omega) rfl, q1, q2, q3, q4, q5, q6⟩
/-- The document's table, in memory. -/
structure RT (B p : Nat) (A : Option Addr) (cap : Nat) (cs : List PC) (ow : Nat) (w : World) : Prop where
 hB : B ≤ w.heap.size
 lt : p < B
 box : w.heap[p]? = some (.cells #[.slice A cs.length cap] 105 (0, 0))
 row : CsRow B w (.slice A cs.length cap) ow cs
 few : cs.length ≤ 1000
theorem RT.below {B p ow cap : Nat} {A : Option Addr} {cs : List PC} {w w' : World} (h : RT B p A cap cs ow w) (hb : Below B w w') : RT B p A cap cs ow w' :=
 ⟨Nat.le_trans h.hB hb.size, h.lt, (hb.block p h.lt).trans h.box, h.row.keep fun q hq => hb.cell hq, h.few⟩
theorem RT.link {B p ow cap : Nat} {A : Option Addr} {cs : List PC} {w w' : World} (h : RT B p A cap cs ow w) (hb : Below w.heap.size w w') : RT B p A cap cs ow w' := h.below (hb.mono h.hB)
theorem RT.cell {B p ow cap : Nat} {A : Option Addr} {cs : List PC} {w : World} (h : RT B p A cap cs ow w) : w.cell? ⟨p, 0, none⟩ = some (.slice A cs.length cap) := by rw [kcells_of h.box]; rfl
section
variable {B p ow cap : Nat} {A : Option Addr} {cs : List PC} {w : World}
theorem results72 : Tryz.f72.results = #[ResultVar.cell 4 119, ResultVar.tmp 5] := by kernel_rfl
theorem ix_first {nm : List UInt8} {k : Nat} {c : PC} (h : ∀ (j : Nat) (d : PC), j < k → cs[j]? = some d → d.name ≠ nm) (hc : cs[k]? = some c) (e : c.name = nm) : ix cs nm = some k := by
 unfold ix
 rw [List.findIdx?_eq_some_iff_getElem]
 obtain ⟨hk, hck⟩ := List.getElem?_eq_some_iff.1 hc
 refine ⟨hk, by rw [hck]; simpa using e, fun j hj => ?_⟩
 simpa using h j _ hj (List.getElem?_eq_getElem (by omega))
set_option maxRecDepth 1000000 in
set_option maxHeartbeats 3200000 in
theorem RFind_any (h : RT B p A cap cs ow w) (s : ByteArray) (hs : s.size ≤ 1000000) :
  Calls Tryz.prog 72 #[.pointer (some ⟨p, 0, none⟩), .string s] w fun e w' => FindAns cs ow s.data.toList w' e ∧ Below w.heap.size w w' := by
 have c0 := h.cell
 have hp := h.lt
 have hB := h.hB
 have hfew := h.few
 have H := Lib.hid h
 have c0' : (w.alloc (.cells #[.string ⟨#[]⟩, .string ⟨#[]⟩, .slice none 0 0, .bool false, .bool false, .bool false, .int .i64 0] 119)).cell? ⟨p, 0, none⟩ = some (.slice A cs.length cap) := (((Below.refl w.heap.size w).alloc (Nat.le_refl _) _).cell (p := ⟨p, 0, none⟩) (Nat.lt_of_lt_of_le hp hB)).trans c0
 have hn : cs.length ≤ 9223372036854775807 := by omega
 clear h c0
 have r := fun q => kcells_of (hheap_new w (.cells #[.string ⟨#[]⟩, .string ⟨#[]⟩, .slice none 0 0, .bool false, .bool false, .bool false, .int .i64 0] 119)) q
 have r0 := r 0
 have r1 := r 1
 have r2 := r 2
 have r3 := r 3
 have r4 := r 4
 have r5 := r 5
 have r6 := r 6
 have rf := kfree_of (hheap_new w (.cells #[.string ⟨#[]⟩, .string ⟨#[]⟩, .slice none 0 0, .bool false, .bool false, .bool false, .int .i64 0] 119))
 simp only [List.getElem?_toArray, List.getElem?_cons_succ, List.getElem?_cons_zero] at r0 r1 r2 r3 r4 r5 r6
 clear r
 go_enter Tryz.func72, Tryz.ntmps72
 go_wp2
 go_loopw [6] (fun i wr => ∃ k : Nat, k ≤ cs.length ∧ i = .int .i64 k ∧ (∀ (j : Nat) (d : PC), j < k → cs[j]? = some d → d.name ≠ s.data.toList) ∧ wr = w.alloc (.cells #[.string ⟨#[]⟩, .string ⟨#[]⟩, .slice none 0 0, .bool false, .bool false, .bool false, .int .i64 0] 119)) (fun i _ => cs.length - (intOf i).toNat)
 case atStart => exact ⟨0, Nat.zero_le _, rfl, fun _ _ h => by omega, rfl⟩
 case round =>
  obtain ⟨k, hk, rfl, hpre, rfl⟩ := hrel
  have HP := Lib.hid hpre
  clear hpre
  by_cases hlt : k < cs.length
  ·have hx := List.getElem?_eq_getElem hlt
   generalize cs[k] = c at hx
   have hbel : Below B w (w.alloc (.cells #[.string ⟨#[]⟩, .string ⟨#[]⟩, .slice none 0 0, .bool false, .bool false, .bool false, .int .i64 0] 119)) := (Below.refl _ _).alloc hB _
   obtain ⟨b, o, s0, t0, a, ca, rfl, hb, d0, d1, d2, d3, d4, d5, d6, q1, q2, q3, q4, q5, q6⟩ := (H.out.below hbel).row.at_ hx
   have hbw : b ≠ w.heap.size := by omega
   have hst : s0.toList = s.toList ↔ c.name = s.data.toList := by rw [← q1, Lib.toList_data, Lib.toList_data]
   have HX := Lib.hid hx
   have HQ := Lib.hid (And.intro q1 (And.intro q2 (And.intro q3 (And.intro q4 (And.intro q5 q6)))))
   clear hx hbel q1 q2 q3 q4 q5 q6
   by_cases he : c.name = s.data.toList
   ·have e1 : (s0.toList == s.toList) = true := by simpa using hst.2 he
    have HE := Lib.hid he
    clear he hst
    go_wp2
    have hbe : Below w.heap.size w (w.alloc (.cells #[.string s0, .string t0, .slice a c.ifaces.length ca, .bool c.iface, .bool c.abs, .bool (decide (ow ≤ k)), .int .i64 c.at_] 119)) := (Below.refl w.heap.size w).alloc (Nat.le_refl _) _
    have z := fun q => kcells_of (hheap_new w (.cells #[.string s0, .string t0, .slice a c.ifaces.length ca, .bool c.iface, .bool c.abs, .bool (decide (ow ≤ k)), .int .i64 c.at_] 119)) q
    have z0 := z 0
    have z1 := z 1
    have z2 := z 2
    have z3 := z 3
    have z4 := z 4
    have z5 := z 5
    have z6 := z 6
    simp only [List.getElem?_toArray, List.getElem?_cons_succ, List.getElem?_cons_zero] at z0 z1 z2 z3 z4 z5 z6
    refine bodyPost_ret (v := .tuple #[.agg #[.string s0, .string t0, .slice a c.ifaces.length ca, .bool c.iface, .bool c.abs, .bool (decide (ow ≤ k)), .int .i64 c.at_], .bool true]) (by simp [results, results72, go_sem, z0, z1, z2, z3, z4, z5, z6]) rfl ?_
    obtain ⟨q1, q2, q3, q4, q5, q6⟩ := HQ.out
    refine ⟨.inr ⟨k, c, ⟨s0, t0, .slice a c.ifaces.length ca, c.iface, c.abs, decide (ow ≤ k), c.at_, 0, .bool true, .bool true, .bool true⟩, .slice a c.ifaces.length ca, ix_first HP.out HX.out HE.out, HX.out, ⟨q1, q2, q3, q4, rfl, rfl, rfl, q6⟩, ?_, rfl⟩, hbe⟩
    have hw := hbe.mono hB
    have h2 := H.out.row.at_ HX.out
    obtain ⟨ss, k1, k2, k3⟩ := q5
    refine ⟨ss, k1, k2, (k3.keep fun q hq => ?_).more (Nat.le_trans hB hw.size)⟩
    have e1 := hw.cell (p := q) hq
    have e2 := ((Below.refl w.heap.size w).alloc (Nat.le_refl _) (.cells #[.string ⟨#[]⟩, .string ⟨#[]⟩, .slice none 0 0, .bool false, .bool false, .bool false, .int .i64 0] 119)).cell (p := q) (Nat.lt_of_lt_of_le hq hB)
    exact e1.trans e2.symm
   ·have e1 : (s0.toList == s.toList) = false := by simpa using fun h => he (hst.1 h)
    have HE := Lib.hid he
    clear he hst
    go_wp2
    go_roundw
    case rel =>
     refine ⟨k + 1, by omega, by go_num, fun j d hj hd => ?_, by trivial⟩
     by_cases hjk : j = k
     ·subst hjk
      rw [HX.out] at hd
      cases hd
      exact HE.out
     ·exact HP.out j d (by omega) hd
    case measure => simp [intOf]; omega
  ·have hkn : k = cs.length := by omega
   subst hkn
   go_wp2
   have hbe : Below w.heap.size w (w.alloc (.cells #[.string ⟨#[]⟩, .string ⟨#[]⟩, .slice none 0 0, .bool false, .bool false, .bool false, .int .i64 0] 119)) := (Below.refl w.heap.size w).alloc (Nat.le_refl _) _
   have z := fun q => kcells_of (hheap_new w (.cells #[.string ⟨#[]⟩, .string ⟨#[]⟩, .slice none 0 0, .bool false, .bool false, .bool false, .int .i64 0] 119)) q
   have z0 := z 0
   have z1 := z 1
   have z2 := z 2
   have z3 := z 3
   have z4 := z 4
   have z5 := z 5
   have z6 := z 6
   simp only [List.getElem?_toArray, List.getElem?_cons_succ, List.getElem?_cons_zero] at z0 z1 z2 z3 z4 z5 z6
   refine bodyPost_ret (v := .tuple #[zeroCls, .bool false]) (by simp [results, results72, go_sem, z0, z1, z2, z3, z4, z5, z6, zeroCls]) rfl ?_
   refine ⟨.inl ⟨ix_none.2 fun c hc => ?_, rfl⟩, hbe⟩
   obtain ⟨j, hj⟩ := List.getElem?_of_mem hc
   exact HP.out j c (List.getElem?_eq_some_iff.1 hj).1 hj
end
/-- The box of what Find answers. -/
def RBoxAt (cs : List PC) (ow : Nat) (nm : List UInt8) (q : Nat) (b : Bool) (w : World) : Prop :=
 (b = false ∧ ix cs nm = none ∧ w.heap[q]? = some (.cells #[.string ⟨#[]⟩, .string ⟨#[]⟩, .slice none 0 0, .bool false, .bool false, .bool false, .int .i64 0] 119 (0, 0))) ∨
 (b = true ∧ ∃ i c, ∃ k : KC, ∃ a ca, ix cs nm = some i ∧ cs[i]? = some c ∧ Nmd k c ∧ SRow w.heap.size w (.slice a c.ifaces.length ca) c.ifaces ∧
  w.heap[q]? = some (.cells #[.string k.name, .string k.super, .slice a c.ifaces.length ca, .bool c.iface, .bool c.abs, .bool (decide (ow ≤ i)), .int .i64 c.at_] 119 (0, 0)))
theorem RBoxAt.lt {cs : List PC} {ow : Nat} {nm : List UInt8} {q : Nat} {b : Bool} {w : World} (h : RBoxAt cs ow nm q b w) : q < w.heap.size := by
 rcases h with ⟨_, _, h⟩ | ⟨_, i, c, k, a, ca, _, _, _, _, h⟩ <;> exact lt_of_block h
theorem RBoxAt.link {cs : List PC} {ow : Nat} {nm : List UInt8} {q : Nat} {b : Bool} {w w' : World} (h : RBoxAt cs ow nm q b w) (hb : Below w.heap.size w w') : RBoxAt cs ow nm q b w' := by
 have hlt := h.lt
 rcases h with ⟨h1, h2, h⟩ | ⟨h1, i, c, k, a, ca, h2, h3, h4, h5, h⟩
 ·exact .inl ⟨h1, h2, (hb.block q hlt).trans h⟩
 ·refine .inr ⟨h1, i, c, k, a, ca, h2, h3, h4, ?_, (hb.block q hlt).trans h⟩
  obtain ⟨ss, k1, k2, k3⟩ := h5
  exact ⟨ss, k1, k2, (k3.keep fun p hp => hb.cell hp).more hb.size⟩
/-- What Find answers, stored in a new box. -/
theorem RBoxAt.new {cs : List PC} {ow : Nat} {nm : List UInt8} {w : World} (h : ix cs nm = none) : RBoxAt cs ow nm w.heap.size false (w.alloc (.cells #[.string ⟨#[]⟩, .string ⟨#[]⟩, .slice none 0 0, .bool false, .bool false, .bool false, .int .i64 0] 119)) := .inl ⟨rfl, h, hheap_new w _⟩
theorem RBoxAt.new2 {cs : List PC} {ow i : Nat} {nm : List UInt8} {w : World} {c : PC} {k : KC} {a : Option Addr} {ca : Nat} (h1 : ix cs nm = some i) (h2 : cs[i]? = some c) (h3 : Nmd k c) (h4 : SRow w.heap.size w (.slice a c.ifaces.length ca) c.ifaces) :
  RBoxAt cs ow nm w.heap.size true (w.alloc (.cells #[.string k.name, .string k.super, .slice a c.ifaces.length ca, .bool c.iface, .bool c.abs, .bool (decide (ow ≤ i)), .int .i64 c.at_] 119)) := by
 refine .inr ⟨rfl, i, c, k, a, ca, h1, h2, h3, ?_, hheap_new w _⟩
 have hb : Below w.heap.size w (w.alloc (.cells #[.string k.name, .string k.super, .slice a c.ifaces.length ca, .bool c.iface, .bool c.abs, .bool (decide (ow ≤ i)), .int .i64 c.at_] 119)) := (Below.refl _ _).alloc (Nat.le_refl _) _
 obtain ⟨ss, k1, k2, k3⟩ := h4
 exact ⟨ss, k1, k2, (k3.keep fun p hp => hb.cell hp).more hb.size⟩
theorem kindE_super {cs : List PC} {c : PC} (h : ix cs c.super = none) : kindE cs c = 14 := by unfold kindE; rw [if_pos (.inl h)]
theorem kindE_iface {cs : List PC} {c : PC} {nm : List UInt8} (hm : nm ∈ c.ifaces) (h : ix cs nm = none) : kindE cs c = 14 := by unfold kindE; rw [if_pos (.inr ⟨nm, hm, h⟩)]
theorem kindE_bad {cs : List PC} {c : PC} (h0 : ix cs c.super ≠ none) (h1 : ∀ nm ∈ c.ifaces, ix cs nm ≠ none) (h : isI cs c.super = true ∨ c.super = strB ∨ c.super = weakB ∨ c.super = loadB ∨ (c.iface = true ∧ c.super ≠ objB) ∨ (∃ nm ∈ c.ifaces, isI cs nm = false)) : kindE cs c = 17 := by
 unfold kindE
 rw [if_neg (by rintro (h | ⟨nm, hm, h⟩); exact h0 h; exact h1 nm hm h), if_pos h]
theorem kindE_good {cs : List PC} {c : PC} (h0 : ix cs c.super ≠ none) (h1 : ∀ nm ∈ c.ifaces, ix cs nm ≠ none) (h : ¬ (isI cs c.super = true ∨ c.super = strB ∨ c.super = weakB ∨ c.super = loadB ∨ (c.iface = true ∧ c.super ≠ objB))) (h2 : ∀ nm ∈ c.ifaces, isI cs nm = true) : kindE cs c = 0 := by
 unfold kindE
 rw [if_neg (by rintro (h | ⟨nm, hm, h⟩); exact h0 h; exact h1 nm hm h), if_neg]
 rintro (g | g | g | g | g | ⟨nm, hm, g⟩)
 ·exact h (.inl g)
 ·exact h (.inr (.inl g))
 ·exact h (.inr (.inr (.inl g)))
 ·exact h (.inr (.inr (.inr (.inl g))))
 ·exact h (.inr (.inr (.inr (.inr g))))
 ·rw [h2 nm hm] at g
  cases g
theorem isI_at {cs : List PC} {nm : List UInt8} {i : Nat} {d : PC} (h : ix cs nm = some i) (hd : cs[i]? = some d) : isI cs nm = d.iface := by unfold isI; rw [h]; simp [hd]
theorem name_at {cs : List PC} {nm : List UInt8} {i : Nat} {d : PC} (h : ix cs nm = some i) (hd : cs[i]? = some d) : d.name = nm := by
 obtain ⟨c, h1, h2⟩ := ix_some h
 rw [hd] at h1
 cases h1
 exact h2
section
variable {B p ow cap : Nat} {A : Option Addr} {cs : List PC} {w : World}
set_option maxRecDepth 1000000 in
set_option maxHeartbeats 3200000 in
theorem Rhas_any (h : RT B p A cap cs ow w) (s : ByteArray) (hs : s.size ≤ 1000000) :
  Calls Tryz.prog 98 #[.pointer (some ⟨p, 0, none⟩), .string s] w fun e w' => e = .returned (.bool (ix cs s.data.toList).isSome) ∧ Below w.heap.size w w' := by
 have F := Lib.hid (RFind_any h s hs)
 clear h
 go_enter Tryz.func98, Tryz.ntmps98
 go_wp2_with fail
 refine F.out.mono ?_
 rintro e w1 ⟨hf, hb⟩
 have HB := Lib.hid hb
 rcases hf with ⟨h1, rfl⟩ | ⟨i, c, k, ifn, h1, h2, h3, h4, rfl⟩
 ·have H1 := Lib.hid h1
  clear h1 hb
  unfold zeroCls
  go_wp2
  go_ret
  exact ⟨ret_b (by rw [H1.out]; rfl), HB.out.alloc HB.out.size _⟩
 ·have H1 := Lib.hid h1
  obtain ⟨a4, c4, rfl, _⟩ := h4.length
  clear h1 h2 h3 h4 hb
  go_wp2
  go_ret
  exact ⟨ret_b (by rw [H1.out]; rfl), HB.out.alloc HB.out.size _⟩
set_option maxRecDepth 1000000 in
set_option maxHeartbeats 6400000 in
theorem Rkind_any (h : RT B p A cap cs ow w) {Bc : Nat} (c : PC) (s t : ByteArray) (a : Option Addr) (ca : Nat) (own : Bool) (hr : SRow Bc w (.slice a c.ifaces.length ca) c.ifaces) (hBc : Bc ≤ w.heap.size) (ht : t.data.toList = c.super) (hz : t.size ≤ 1000000) (hf : c.ifaces.length ≤ 1000) :
  Calls Tryz.prog 99 #[.pointer (some ⟨p, 0, none⟩), .agg #[.string s, .string t, .slice a c.ifaces.length ca, .bool c.iface, .bool c.abs, .bool own, .int .i64 c.at_]] w fun e w' => e = .returned (.int .i64 ((kindE cs c : Nat) : Int)) ∧ Below w.heap.size w w' := by
 have F := Lib.hid (fun W (hb : Below w.heap.size w W) => RFind_any (h.link hb) t hz)
 have FX := Lib.hid (fun W (hb : Below w.heap.size w W) x hx => RFind_any (h.link hb) x hx)
 have HS := Lib.hid (fun W (hb : Below w.heap.size w W) x hx => Rhas_any (h.link hb) x hx)
 have SR := Lib.hid hr
 have TS := Lib.hid ht
 obtain ⟨n, hn⟩ : ∃ n, c.ifaces.length = n := ⟨_, rfl⟩
 have HNN := Lib.hid hn
 rw [hn] at hf SR ⊢
 obtain ⟨ai, hai⟩ : ∃ x, x = c.at_ := ⟨_, rfl⟩
 obtain ⟨bi, hbi⟩ : ∃ x, x = c.iface := ⟨_, rfl⟩
 obtain ⟨ba, hba⟩ : ∃ x, x = c.abs := ⟨_, rfl⟩
 obtain ⟨ke, hke⟩ : ∃ x : Nat, x = kindE cs c := ⟨_, rfl⟩
 rw [← hai, ← hbi, ← hba, ← hke]
 have HBI := Lib.hid hbi
 have HKE := Lib.hid hke
 clear h hr ht hn hai hba hbi hke
 go_enter Tryz.func99, Tryz.ntmps99
 go_upto_region 1 with fail
 go_cut [5, 6] (fun v5 v6 wx => ∃ (q : Nat) (b : Bool), v5 = .pointer (some ⟨q, 0, none⟩) ∧ v6 = .bool b ∧ RBoxAt cs ow c.super q b wx ∧ Below w.heap.size w wx ∧ wx.heap[w.heap.size]? = some (.cells #[.string s, .string t, .slice a n ca, .bool bi, .bool ba, .bool own, .int .i64 ai] 119 (0, 0)))
 case first =>
  go_wp2_with fail
  refine (F.out _ ((Below.refl _ _).alloc (Nat.le_refl _) _)).mono ?_
  rintro e w1 ⟨hfa, hb⟩
  have B0 := Lib.hid ((Below.refl w.heap.size w).alloc (Nat.le_refl _) (.cells #[.string s, .string t, .slice a n ca, .bool bi, .bool ba, .bool own, .int .i64 ai] 119))
  have B1 := Lib.hid (B0.out.trans (hb.mono B0.out.size))
  have Q0 := Lib.hid ((hb.block w.heap.size (by simp)).trans (hheap_new w (.cells #[.string s, .string t, .slice a n ca, .bool bi, .bool ba, .bool own, .int .i64 ai] 119)))
  rw [TS.out] at hfa
  rcases hfa with ⟨h1, rfl⟩ | ⟨i, d, k, ifn, h1, h2, h3, h4, rfl⟩
  ·have H1 := Lib.hid h1
   clear h1 hb
   unfold zeroCls
   go_wp2
   go_meet
   case rel => exact ⟨_, false, rfl, rfl, RBoxAt.new H1.out, B1.out.alloc B1.out.size _, hheap_alloc_lt Q0.out⟩
  ·obtain ⟨a4, c4, rfl, _⟩ := h4.length
   have H1 := Lib.hid h1
   have H2 := Lib.hid h2
   have H3 := Lib.hid h3
   have H4 := Lib.hid h4
   clear h1 h2 h3 h4 hb
   go_wp2
   go_meet
   case rel => exact ⟨_, true, rfl, rfl, RBoxAt.new2 H1.out H2.out H3.out H4.out, B1.out.alloc B1.out.size _, hheap_alloc_lt Q0.out⟩
 obtain ⟨q, b, rfl, rfl, hbox, hb, hq0⟩ := hcut
 obtain ⟨V, hV⟩ : ∃ x, x = wc := ⟨_, rfl⟩
 subst hV
 have BV := Lib.hid hb
 have Q0 := Lib.hid hq0
 rcases hbox with ⟨rfl, h1, hq⟩ | ⟨rfl, i, d, k, a4, c4, h1, h2, h3, h4, hq⟩
 ·have H1 := Lib.hid h1
  clear h1 hb hq hq0
  go_wp2
  go_ret
  exact ⟨ret_i (by rw [HKE.out, kindE_super H1.out]; rfl), BV.out⟩
 have HQ := Lib.hid hq
 have H1 := Lib.hid h1
 have H2 := Lib.hid h2
 have H3 := Lib.hid h3
 have hnm : k.name.toList = c.super := by rw [Lib.toList_data, h3.nm, name_at h1 h2]
 have HNM := Lib.hid hnm
 have HII := Lib.hid (isI_at h1 h2)
 have HV := BV.out.size
 clear h1 h2 h3 h4 hb hq hq0 hnm
 generalize d.iface = di at *
 go_wp2
 go_loopw [7] (fun i wr => ∃ m : Nat, m ≤ n ∧ i = .int .i64 m ∧ (∀ (j : Nat) (nm : List UInt8), j < m → c.ifaces[j]? = some nm → ix cs nm ≠ none) ∧ Below V.heap.size V wr) (fun i _ => n - (intOf i).toNat)
 case atStart => exact ⟨0, Nat.zero_le _, rfl, fun _ _ h => by omega, Below.refl _ _⟩
 case round =>
  obtain ⟨m, hm, rfl, hpre, hbr⟩ := hrel
  have HP := Lib.hid hpre
  have BR := Lib.hid hbr
  have BW := Lib.hid (BV.out.trans (hbr.mono BV.out.size))
  have q0 := kcells_of ((hbr.block _ (lt_of_block Q0.out)).trans Q0.out)
  have q2 := q0 2
  have q3 := q0 3
  have qq := kcells_of ((hbr.block _ (lt_of_block HQ.out)).trans HQ.out)
  have p0 := qq 0
  have p3 := qq 3
  simp only [List.getElem?_toArray, List.getElem?_cons_succ, List.getElem?_cons_zero] at q2 q3 p0 p3
  clear hpre hbr q0 qq
  by_cases hlt : m < n
  ·obtain ⟨x, hx⟩ : ∃ x, c.ifaces[m]? = some x := ⟨_, List.getElem?_eq_getElem (by rw [HNN.out]; exact hlt)⟩
   have hrow := SR.out.keep (w' := wr) (fun q hq => BW.out.cell (Nat.lt_of_lt_of_le hq hBc))
   obtain ⟨b, o, sx, rfl, hbb, cx, hsx, hzx⟩ := hrow.at_ hx
   have HX := Lib.hid hx
   have HSX := Lib.hid hsx
   clear hx hrow hsx
   go_wp2_with fail
   refine (HS.out _ BW.out sx hzx).mono ?_
   rintro e w2 ⟨rfl, hb2⟩
   rw [HSX.out]
   have B2 := Lib.hid (BW.out.trans (hb2.mono BW.out.size))
   have B2V := Lib.hid (BR.out.trans (hb2.mono BR.out.size))
   cases hxx : ix cs x with
   | none =>
    have HXX := Lib.hid hxx
    have hno : (none : Option Nat).isSome = false := rfl
    rw [hno]
    clear hxx hb2 hno
    go_wp2
    go_ret
    exact ⟨ret_i (by rw [HKE.out, kindE_iface (List.mem_of_getElem? HX.out) HXX.out]; rfl), B2.out⟩
   | some y =>
    have HXX := Lib.hid hxx
    have hno : (some y : Option Nat).isSome = true := rfl
    rw [hno]
    clear hxx hb2 hno
    go_wp2
    go_roundw
    case rel =>
     refine ⟨m + 1, by omega, by go_num, fun j nm hj hjn => ?_, B2V.out⟩
     by_cases hjm : j = m
     ·subst hjm
      rw [HX.out] at hjn
      cases hjn
      rw [HXX.out]
      simp
     ·exact HP.out j nm (by omega) hjn
    case measure => simp [intOf]; omega
  ·have hmn : m = n := by omega
   subst hmn
   have hall : ∀ nm ∈ c.ifaces, ix cs nm ≠ none := fun nm hnm => by
    obtain ⟨j, hj⟩ := List.getElem?_of_mem hnm
    exact HP.out j nm (by have := (List.getElem?_eq_some_iff.1 hj).1; rw [HNN.out] at this; exact this) hj
   have HALL := Lib.hid hall
   clear hall HP
   go_upto_region 10 with fail
   go_cut [61] (fun v wx => ∃ bb : Bool, v = .bool bb ∧ (bb = true ↔ (di = true ∨ c.super = strB ∨ c.super = weakB ∨ c.super = loadB ∨ (bi = true ∧ c.super ≠ objB))) ∧ wx = wr)
   case first =>
    cases di with
    | true =>
     go_wp2
     go_meet
     case rel => exact ⟨_, rfl, by rw [← HNM.out]; simp [strB, weakB, loadB, objB], rfl⟩
    | false =>
     by_cases gstrB : k.name.toList = [83, 116, 114, 105, 110, 103]
     ·have e : (k.name.toList == [83, 116, 114, 105, 110, 103]) = true := by simpa using gstrB
      go_wp2
      go_meet
      case rel => exact ⟨_, rfl, by rw [← HNM.out]; simp [strB, weakB, loadB, objB, gstrB], rfl⟩
     have estrB : (k.name.toList == [83, 116, 114, 105, 110, 103]) = false := by simpa using gstrB
     by_cases gweakB : k.name.toList = [87, 101, 97, 107]
     ·have e : (k.name.toList == [87, 101, 97, 107]) = true := by simpa using gweakB
      go_wp2
      go_meet
      case rel => exact ⟨_, rfl, by rw [← HNM.out]; simp [strB, weakB, loadB, objB, gweakB], rfl⟩
     have eweakB : (k.name.toList == [87, 101, 97, 107]) = false := by simpa using gweakB
     by_cases gloadB : k.name.toList = [76, 111, 97, 100, 101, 114]
     ·have e : (k.name.toList == [76, 111, 97, 100, 101, 114]) = true := by simpa using gloadB
      go_wp2
      go_meet
      case rel => exact ⟨_, rfl, by rw [← HNM.out]; simp [strB, weakB, loadB, objB, gloadB], rfl⟩
     have eloadB : (k.name.toList == [76, 111, 97, 100, 101, 114]) = false := by simpa using gloadB
     cases bi with
     | false =>
      go_wp2
      go_meet
      case rel => exact ⟨_, rfl, by rw [← HNM.out]; simp [strB, weakB, loadB, objB, gstrB, gweakB, gloadB], rfl⟩
     | true =>
      by_cases gobj : k.name.toList = [79, 98, 106, 101, 99, 116]
      ·have e : (k.name.toList == [79, 98, 106, 101, 99, 116]) = true := by simpa using gobj
       have e2 : (k.name.toList != [79, 98, 106, 101, 99, 116]) = false := by simpa using gobj
       go_wp2
       go_meet
       case rel => exact ⟨_, rfl, by rw [← HNM.out]; simp [strB, weakB, loadB, objB, gobj], rfl⟩
      ·have e : (k.name.toList == [79, 98, 106, 101, 99, 116]) = false := by simpa using gobj
       have e2 : (k.name.toList != [79, 98, 106, 101, 99, 116]) = true := by simpa using gobj
       go_wp2
       go_meet
       case rel => exact ⟨_, rfl, by rw [← HNM.out]; simp [strB, weakB, loadB, objB, gobj], rfl⟩
   obtain ⟨bb, rfl, hbb, hw⟩ := hcut
   subst hw
   have HBB := Lib.hid hbb
   clear hbb p0 p3 q3
   have hsome : ix cs c.super ≠ none := by rw [H1.out]; simp
   have HSM := Lib.hid hsome
   clear hsome
   cases bb with
   | true =>
    go_wp2
    go_ret
    refine ⟨ret_i (by
     rw [HKE.out, kindE_bad HSM.out HALL.out]
     ·rfl
     ·have := HBB.out.1 (by simp)
      rw [HBI.out, ← HII.out] at this
      rcases this with h | h | h | h | h
      ·exact .inl h
      ·exact .inr (.inl h)
      ·exact .inr (.inr (.inl h))
      ·exact .inr (.inr (.inr (.inl h)))
      ·exact .inr (.inr (.inr (.inr (.inl h))))), BW.out⟩
   | false =>
    have hno : ¬ (isI cs c.super = true ∨ c.super = strB ∨ c.super = weakB ∨ c.super = loadB ∨ (c.iface = true ∧ c.super ≠ objB)) := by
     rw [HII.out, ← HBI.out]
     intro h
     exact absurd (HBB.out.2 h) (by simp)
    have HNO := Lib.hid hno
    obtain ⟨V2, hV2⟩ : ∃ x, x = wc := ⟨_, rfl⟩
    subst hV2
    clear hno
    go_wp2
    go_loopw [8] (fun i wr => ∃ m' : Nat, m' ≤ m ∧ i = .int .i64 m' ∧ (∀ (j : Nat) (nm : List UInt8), j < m' → c.ifaces[j]? = some nm → isI cs nm = true) ∧ Below V2.heap.size V2 wr) (fun i _ => m - (intOf i).toNat)
    case atStart => exact ⟨0, Nat.zero_le _, rfl, fun _ _ h => by omega, Below.refl _ _⟩
    case round =>
     obtain ⟨m', hm', rfl, hpre, hbr⟩ := hrel
     have HP := Lib.hid hpre
     have B3 := Lib.hid hbr
     have B4 := Lib.hid (BW.out.trans (hbr.mono BW.out.size))
     have q2' := (hbr.cell (p := ⟨w.heap.size, 2, none⟩) (lt_of_block ((BR.out.block _ (lt_of_block Q0.out)).trans Q0.out))).trans q2
     clear hpre hbr
     by_cases hlt : m' < m
     ·obtain ⟨x, hx⟩ : ∃ x, c.ifaces[m']? = some x := ⟨_, List.getElem?_eq_getElem (by rw [HNN.out]; exact hlt)⟩
      have hrow := SR.out.keep (w' := wr) (fun q hq => B4.out.cell (Nat.lt_of_lt_of_le hq hBc))
      obtain ⟨b, o, sx, rfl, hbb, cx, hsx, hzx⟩ := hrow.at_ hx
      have HX := Lib.hid hx
      have HSX := Lib.hid hsx
      clear hx hrow hsx
      go_wp2_with fail
      refine (FX.out _ B4.out sx hzx).mono ?_
      rintro e w2 ⟨hfa, hb2⟩
      rw [HSX.out] at hfa
      have B5 := Lib.hid (B4.out.trans (hb2.mono B4.out.size))
      have B5V := Lib.hid (B3.out.trans (hb2.mono B3.out.size))
      rcases hfa with ⟨h1, _⟩ | ⟨i', d', k', ifn, h1, h2, h3, h4, rfl⟩
      ·exact absurd h1 (HALL.out x (List.mem_of_getElem? HX.out))
      have HI := Lib.hid (isI_at h1 h2)
      obtain ⟨a4', c4', rfl, _⟩ := h4.length
      clear h1 h2 h3 h4 hb2
      generalize d'.iface = di' at *
      cases di' with
      | false =>
       go_wp2
       go_ret
       exact ⟨ret_i (by rw [HKE.out, kindE_bad HSM.out HALL.out (.inr (.inr (.inr (.inr (.inr ⟨x, List.mem_of_getElem? HX.out, HI.out⟩)))))]; rfl), B5.out.alloc B5.out.size _⟩
      | true =>
       go_wp2
       go_roundw
       case rel =>
        refine ⟨m' + 1, by omega, by go_num, fun j nm hj hjn => ?_, B5V.out.alloc B5V.out.size _⟩
        by_cases hjm : j = m'
        ·subst hjm
         rw [HX.out] at hjn
         cases hjn
         exact HI.out
        ·exact HP.out j nm (by omega) hjn
       case measure => simp [intOf]; omega
     ·have hmn : m' = m := by omega
      subst hmn
      go_wp2
      go_ret
      refine ⟨ret_i (by
       rw [HKE.out, kindE_good HSM.out HALL.out HNO.out]
       ·rfl
       ·intro nm hnm
        obtain ⟨j, hj⟩ := List.getElem?_of_mem hnm
        exact HP.out j nm (by have := (List.getElem?_eq_some_iff.1 hj).1; rw [HNN.out] at this; exact this) hj), B4.out⟩
end
end Go.Proofs.YtmaknddlgppinaaGreatDoor
