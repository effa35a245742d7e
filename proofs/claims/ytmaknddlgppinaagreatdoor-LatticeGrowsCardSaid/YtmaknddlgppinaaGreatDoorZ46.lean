/-
  CUT and joined from the texts of this seat: Ml
-/
import Derived.Test.YtmaknddlgppinaaGreatDoorZ01
import Derived.Test.YtmaknddlgppinaaGreatDoorZ45
set_option linter.unusedVariables false
set_option linter.unusedSimpArgs false
namespace Go.Proofs.YtmaknddlgppinaaGreatDoor
open Go.RowKit
/-- Two states, boxed. -/
structure SB2 (w0 : World) (x0 x1 y0 y1 : Value) (w : World) : Prop where
 a : w.heap[w0.heap.size]? = some (.cells #[x0, x1] 75 (0, 0))
 b : w.heap[w0.heap.size + 1]? = some (.cells #[y0, y1] 75 (0, 0))
 below : Below w0.heap.size w0 w
 sz : w0.heap.size + 2 ≤ w.heap.size
theorem SB2.start (w : World) (x0 x1 y0 y1 : Value) : SB2 w x0 x1 y0 y1 ((w.alloc (.cells #[x0, x1] 75)).alloc (.cells #[y0, y1] 75)) :=
 ⟨hheap_alloc_lt (hheap_new w _), hheap_at _ _ _ (by simp), ((Below.refl _ _).alloc (Nat.le_refl _) _).alloc (by simp) _, by simp⟩
theorem SB2.next {w0 w w' : World} {x0 x1 y0 y1 : Value} (h : SB2 w0 x0 x1 y0 y1 w) (hb : Below w.heap.size w w') : SB2 w0 x0 x1 y0 y1 w' := by
 have hz := h.sz
 exact ⟨(hb.block _ (by omega)).trans h.a, (hb.block _ (by omega)).trans h.b, h.below.trans (hb.mono (by omega)), Nat.le_trans hz hb.size⟩
/-- .. and a box for the answer. -/
structure SB3 (w0 : World) (x0 x1 y0 y1 : Value) (w : World) : Prop where
 two : SB2 w0 x0 x1 y0 y1 w
 r : w.heap[w0.heap.size + 1 + 1]? = some (.cells #[.slice none 0 0, .slice none 0 0] 75 (0, 0))
theorem SB3.start (w : World) (x0 x1 y0 y1 : Value) : SB3 w x0 x1 y0 y1 (((w.alloc (.cells #[x0, x1] 75)).alloc (.cells #[y0, y1] 75)).alloc (.cells #[.slice none 0 0, .slice none 0 0] 75)) :=
 ⟨(SB2.start w x0 x1 y0 y1).next ((Below.refl _ _).alloc (Nat.le_refl _) _), hheap_at _ _ _ (by simp)⟩
theorem SB3.next {w0 w w' : World} {x0 x1 y0 y1 : Value} (h : SB3 w0 x0 x1 y0 y1 w) (hb : Below w.heap.size w w') : SB3 w0 x0 x1 y0 y1 w' :=
 ⟨h.two.next hb, (hb.block _ (lt_of_block h.r)).trans h.r⟩
theorem SB2.drew {w0 w : World} {x0 x1 y0 y1 : Value} (h : SB2 w0 x0 x1 y0 y1 w) : SB2 w0 x0 x1 y0 y1 w.drew := ⟨h.a, h.b, h.below.drew, h.sz⟩
theorem SB2.put {w0 w : World} {x0 x1 y0 y1 u : Value} {b i : Nat} (h : SB2 w0 x0 x1 y0 y1 w) (hb : w0.heap.size + 2 ≤ b) : SB2 w0 x0 x1 y0 y1 (w.setCell ⟨b, i, none⟩ u) :=
 ⟨(Below.heap_setCell _ _ _ _ (by show w0.heap.size ≠ b; omega)).trans h.a, (Below.heap_setCell _ _ _ _ (by show w0.heap.size + 1 ≠ b; omega)).trans h.b, h.below.setCell (by show w0.heap.size ≤ b; omega) _, by simpa [World.setCell] using h.sz⟩
theorem KBlk.other {p b i : Nat} {l : List KQ} {w : World} {u : Value} (h : KBlk p l w) (hn : p ≠ b) : KBlk p l (w.setCell ⟨b, i, none⟩ u) := (Below.heap_setCell _ _ _ _ hn).trans h
theorem results46 : Tryz.f46.results = #[ResultVar.cell 6 75, ResultVar.tmp 7] := by kernel_rfl
theorem results49 : Tryz.f49.results = #[ResultVar.cell 2 75] := by kernel_rfl
/-- A row that a call owns lies where it lay. -/
theorem KRow.ofown {B base : Nat} {w w' : World} {v : Value} {l : List KQ} (h : KRow B w v l) (own : w'.ownsRow base 64 4 v l.length (kcells l)) : KRow B w' v l := by
 obtain ⟨A, cap, rfl, h1, h2, h3, h4⟩ := h
 obtain ⟨A', cap', e, _, _, _, h5⟩ := Row.hof_own own
 injection e with e1 e2 e3
 subst e1
 refine ⟨_, _, rfl, h1, h2, h3, fun hn => ?_⟩
 obtain ⟨b, o, e, hb, _⟩ := h4 hn
 obtain ⟨b', o', e', _, hc⟩ := h5 hn
 cases e.symm.trans e'
 exact ⟨b, o, e, hb, hc⟩
section
variable {Bt tb mb cap ow : Nat} {A : Option Addr} {cs : List PC} {cl sl : Nat → Nat} {S : Nat → List Nat}
set_option maxRecDepth 1000000 in
set_option maxHeartbeats 6400000 in
theorem JoinStates_any {B : Nat} (la sa lb sb : List KQ) (ax ay bx by_ : Value) (w : World) (h : HT Bt tb mb A cap ow cs cl sl S w) (hax : KRow B w ax la) (hay : KRow B w ay sa) (hbx : KRow B w bx lb) (hby : KRow B w by_ sb) (hB : B ≤ w.heap.size)
  (z1 : Small la) (z2 : Small sa) (z3 : Small lb) (z4 : Small sb) (hn : la.length ≤ 1000000) (hm : sa.length ≤ 1000000) (he : sa.length = sb.length) :
  Calls Tryz.prog 46 #[.pointer (some ⟨tb, 0, none⟩), .agg #[ax, ay], .agg #[bx, by_]] w fun e w' => ∃ p1 l1 p2 l2, e = .returned (.tuple #[.agg #[.slice (some ⟨p1, 0, none⟩) l1.length l1.length, .slice (some ⟨p2, 0, none⟩) l2.length l2.length], .int .i64 0]) ∧
   w.heap.size ≤ p1 ∧ p1 < p2 ∧ KBlk p1 l1 w' ∧ KBlk p2 l2 w' ∧ JoinL cs la lb l1 ∧ JoinL cs sa sb l2 ∧ Below w.heap.size w w' := by
 obtain ⟨A1, c1, rfl, _, _⟩ := hax.form
 obtain ⟨A2, c2, rfl, _, hm2⟩ := hay.form
 obtain ⟨A3, c3, rfl, _, _⟩ := hbx.form
 obtain ⟨A4, c4, rfl, _, hm4⟩ := hby.form
 have HT := Lib.hid h
 have HB := Lib.hid hB
 have Hax := Lib.hid hax
 have Hay := Lib.hid hay
 have Hbx := Lib.hid hbx
 have Hby := Lib.hid hby
 have hMa : ((sa.length : Nat) : Int) ≤ 9223372036854775807 := by unfold maxLen at hm2; omega
 have hMb : ((sb.length : Nat) : Int) ≤ 9223372036854775807 := by unfold maxLen at hm4; omega
 have e1 : (((sa.length : Nat) : Int) != ((sb.length : Nat) : Int)) = false := by rw [he]; simp
 have T0 := Lib.hid (SB3.start w (.slice A1 la.length c1) (.slice A2 sa.length c2) (.slice A3 lb.length c3) (.slice A4 sb.length c4))
 clear h hB hax hay hbx hby hm2 hm4 he
 obtain ⟨w1, hw1⟩ : ∃ x, x = (((w.alloc (.cells #[.slice A1 la.length c1, .slice A2 sa.length c2] 75)).alloc (.cells #[.slice A3 lb.length c3, .slice A4 sb.length c4] 75)).alloc (.cells #[.slice none 0 0, .slice none 0 0] 75)) := ⟨_, rfl⟩
 go_enter Tryz.func46, Tryz.ntmps46
 go_upto_region 3 with fail
 rw [← hw1] at T0 ⊢
 clear hw1
 have HR0 := Lib.hid T0.out.r
 have TS := Lib.hid T0.out.two
 have hpr0 : w.heap.size + 1 + 1 < w1.heap.size := lt_of_block T0.out.r
 clear T0
 have T0 := TS.out.drew
 refine wp_region_held_drew (S := fun W => SB2 w (.slice A1 la.length c1) (.slice A2 sa.length c2) (.slice A3 lb.length c3) (.slice A4 sb.length c4) W) (by kernel_rfl) T0 (fun hS0 => ?_)
 refine wpAnyH_take (i := 0) (oi := ({ dst := some 16, op := Op.move (Operand.tmp 0), type := 32, pos := "states.go:15", after := #[], guard := none } : Oper)) (v := ?av1) rfl (by kernel_rfl) (by kernel_rfl) (by kernel_rfl) (fun _ _ _ h => h) (Or.inl ⟨by rfl, ?ay1⟩) T0 ?_
 case ay1 => (intro V hSw; go_simp; try with_reducible rfl)
 try simp only [pu0, puN, pu1, pu2, pu3]
 refine wpAnyH_take (i := 1) (oi := ({ dst := some 17, op := Op.fieldAddr 75 (Operand.tmp 4) 0, type := 0, pos := "states.go:15", after := #[], guard := none } : Oper)) (v := ?av2) rfl (by kernel_rfl) (by kernel_rfl) (by kernel_rfl) (fun _ _ _ h => h) (Or.inl ⟨by rfl, ?ay2⟩) T0 ?_
 case ay2 => (intro V hSw; go_simp; try with_reducible rfl)
 try simp only [pu0, puN, pu1, pu2, pu3]
 refine wpAnyH_take (i := 2) (oi := ({ dst := some 18, op := Op.load 60 (Operand.tmp 17), type := 60, pos := "states.go:15", after := #[{ on := 1, ground := Ground.data }], guard := none } : Oper)) (v := ?av3) rfl (by kernel_rfl) (by kernel_rfl) (by kernel_rfl) (fun _ _ _ h => h) (Or.inl ⟨by rfl, ?ay3⟩) T0 ?_
 case ay3 => (intro V hSw; have c0 : V.cell? ⟨w.heap.size, 0, none⟩ = some (.slice A1 la.length c1) := kcells_of hSw.a 0; go_simp; try with_reducible rfl)
 try simp only [pu0, puN, pu1, pu2, pu3]
 refine wpAnyH_take (i := 3) (oi := ({ dst := some 19, op := Op.fieldAddr 75 (Operand.tmp 5) 0, type := 0, pos := "states.go:15", after := #[], guard := none } : Oper)) (v := ?av4) rfl (by kernel_rfl) (by kernel_rfl) (by kernel_rfl) (fun _ _ _ h => h) (Or.inl ⟨by rfl, ?ay4⟩) T0 ?_
 case ay4 => (intro V hSw; go_simp; try with_reducible rfl)
 try simp only [pu0, puN, pu1, pu2, pu3]
 refine wpAnyH_take (i := 4) (oi := ({ dst := some 20, op := Op.load 60 (Operand.tmp 19), type := 60, pos := "states.go:15", after := #[{ on := 3, ground := Ground.data }], guard := none } : Oper)) (v := ?av5) rfl (by kernel_rfl) (by kernel_rfl) (by kernel_rfl) (fun _ _ _ h => h) (Or.inl ⟨by rfl, ?ay5⟩) T0 ?_
 case ay5 => (intro V hSw; have c0 : V.cell? ⟨w.heap.size + 1, 0, none⟩ = some (.slice A3 lb.length c3) := kcells_of hSw.b 0; go_simp; try with_reducible rfl)
 try simp only [pu0, puN, pu1, pu2, pu3]
 refine wpAnyH_take (i := 6) (oi := ({ dst := some 22, op := Op.move (Operand.tmp 0), type := 32, pos := "states.go:15", after := #[], guard := none } : Oper)) (v := ?av6) rfl (by kernel_rfl) (by kernel_rfl) (by kernel_rfl) (fun _ _ _ h => h) (Or.inl ⟨by rfl, ?ay6⟩) T0 ?_
 case ay6 => (intro V hSw; go_simp; try with_reducible rfl)
 try simp only [pu0, puN, pu1, pu2, pu3]
 refine wpAnyH_take (i := 7) (oi := ({ dst := some 23, op := Op.fieldAddr 75 (Operand.tmp 4) 1, type := 0, pos := "states.go:15", after := #[], guard := none } : Oper)) (v := ?av7) rfl (by kernel_rfl) (by kernel_rfl) (by kernel_rfl) (fun _ _ _ h => h) (Or.inl ⟨by rfl, ?ay7⟩) T0 ?_
 case ay7 => (intro V hSw; go_simp; try with_reducible rfl)
 try simp only [pu0, puN, pu1, pu2, pu3]
 refine wpAnyH_take (i := 8) (oi := ({ dst := some 24, op := Op.load 60 (Operand.tmp 23), type := 60, pos := "states.go:15", after := #[{ on := 7, ground := Ground.data }], guard := none } : Oper)) (v := ?av8) rfl (by kernel_rfl) (by kernel_rfl) (by kernel_rfl) (fun _ _ _ h => h) (Or.inl ⟨by rfl, ?ay8⟩) T0 ?_
 case ay8 => (intro V hSw; have c1 : V.cell? ⟨w.heap.size, 1, none⟩ = some (.slice A2 sa.length c2) := kcells_of hSw.a 1; go_simp; try with_reducible rfl)
 try simp only [pu0, puN, pu1, pu2, pu3]
 refine wpAnyH_take (i := 9) (oi := ({ dst := some 25, op := Op.fieldAddr 75 (Operand.tmp 5) 1, type := 0, pos := "states.go:15", after := #[], guard := none } : Oper)) (v := ?av9) rfl (by kernel_rfl) (by kernel_rfl) (by kernel_rfl) (fun _ _ _ h => h) (Or.inl ⟨by rfl, ?ay9⟩) T0 ?_
 case ay9 => (intro V hSw; go_simp; try with_reducible rfl)
 try simp only [pu0, puN, pu1, pu2, pu3]
 refine wpAnyH_take (i := 10) (oi := ({ dst := some 26, op := Op.load 60 (Operand.tmp 25), type := 60, pos := "states.go:15", after := #[{ on := 9, ground := Ground.data }], guard := none } : Oper)) (v := ?av10) rfl (by kernel_rfl) (by kernel_rfl) (by kernel_rfl) (fun _ _ _ h => h) (Or.inl ⟨by rfl, ?ay10⟩) T0 ?_
 case ay10 => (intro V hSw; have c1 : V.cell? ⟨w.heap.size + 1, 1, none⟩ = some (.slice A4 sb.length c4) := kcells_of hSw.b 1; go_simp; try with_reducible rfl)
 try simp only [pu0, puN, pu1, pu2, pu3]
 refine wpAnyH_ready (rs := [5]) (by kernel_rfl) (by simp) ?_
 refine (AllReadyH.cons (o := _) rfl (fun K hK => ?_) AllReadyH.nil)
 go_simp
 refine (joins_any (B := B) la lb _ _ _ (HT.out.below (T0.below.mono HT.out.hB)) (Hax.out.below (T0.below.mono HB.out)) (Hbx.out.below (T0.below.mono HB.out)) (Nat.le_trans HB.out T0.below.size) z1 z3 hn).mono ?_
 rintro e P11 ⟨p1, l1, rfl, hp1, kb1, jl1, hb11⟩
 have K1 := Lib.hid kb1
 have JL1 := Lib.hid jl1
 have HR11 := Lib.hid ((hb11.block _ (lt_of_block (show w1.drew.heap[w.heap.size + 1 + 1]? = _ from HR0.out))).trans HR0.out)
 have T11 := T0.next hb11
 have hpr : w.heap.size + 1 + 1 < p1 := by have : w1.heap.size ≤ p1 := hp1; omega
 have hp1w : w.heap.size ≤ p1 := by omega
 clear jl1 kb1
 try go_wp2_with fail
 refine hK.out _ _ T11 (fun hS11 => ?_)
 clear hK K
 try simp only [pu0, puN, pu1, pu2, pu3]
 refine wpAnyH_ready (rs := [11]) (by kernel_rfl) (by simp) ?_
 refine (AllReadyH.cons (o := _) rfl (fun K hK => ?_) AllReadyH.nil)
 go_simp
 refine (joins_any (B := B) sa sb _ _ _ (HT.out.below (T11.below.mono HT.out.hB)) (Hay.out.below (T11.below.mono HB.out)) (Hby.out.below (T11.below.mono HB.out)) (Nat.le_trans HB.out T11.below.size) z2 z4 hm).mono ?_
 rintro e P12 ⟨p2, l2, rfl, hp2, kb2, jl2, hb12⟩
 have K2 := Lib.hid kb2
 have JL2 := Lib.hid jl2
 have HR12 := Lib.hid ((hb12.block _ (lt_of_block (show P11.heap[w.heap.size + 1 + 1]? = _ from HR11.out))).trans HR11.out)
 have T12 := T11.next hb12
 have h12 : p1 < p2 := Nat.lt_of_lt_of_le (lt_of_block K1.out) hp2
 replace K1 := Lib.hid (K1.out.below hb12)
 clear jl2 kb2
 try go_wp2_with fail
 refine hK.out _ _ T12 (fun hS12 => ?_)
 clear hK K
 try simp only [pu0, puN, pu1, pu2, pu3]
 refine wpAnyH_take (i := 12) (oi := ({ dst := some 28, op := Op.build 75 #[(0, Operand.tmp 21), (1, Operand.tmp 27)], type := 75, pos := "states.go:15", after := #[{ on := 5, ground := Ground.data }, { on := 11, ground := Ground.data }], guard := none } : Oper)) (v := ?av13) rfl (by kernel_rfl) (by kernel_rfl) (by kernel_rfl) (fun _ _ _ h => h) (Or.inl ⟨by rfl, ?ay13⟩) T12 ?_
 case ay13 => (intro V hSw; go_simp; try with_reducible rfl)
 try simp only [pu0, puN, pu1, pu2, pu3]
 refine wpAnyH_ready (rs := [13]) (by kernel_rfl) (by simp) ?_
 refine (AllReadyH.cons (o := _) rfl (fun K hK => ?_) AllReadyH.nil)
 go_simp
 skip
 have HR := HR12.out
 have r0 := kcells_of HR 0
 have r1 := kcells_of HR 1
 simp only [List.getElem?_toArray, List.getElem?_cons_succ, List.getElem?_cons_zero] at r0 r1
 have rf := kfree_of HR
 have hlr2 := lt_of_block HR
 go_simp
 have RR := Lib.hid (set2 HR (.slice (some ⟨p1, 0, none⟩) l1.length l1.length) (.slice (some ⟨p2, 0, none⟩) l2.length l2.length))
 have K1' := Lib.hid ((K1.out.other (b := w.heap.size + 1 + 1) (i := 0) (u := (.slice (some ⟨p1, 0, none⟩) l1.length l1.length)) (by omega)).other (b := w.heap.size + 1 + 1) (i := 1) (u := (.slice (some ⟨p2, 0, none⟩) l2.length l2.length)) (by omega))
 have K2' := Lib.hid ((K2.out.other (b := w.heap.size + 1 + 1) (i := 0) (u := (.slice (some ⟨p1, 0, none⟩) l1.length l1.length)) (by omega)).other (b := w.heap.size + 1 + 1) (i := 1) (u := (.slice (some ⟨p2, 0, none⟩) l2.length l2.length)) (by omega))
 have T14 := (T12.put (b := w.heap.size + 1 + 1) (i := 0) (u := (.slice (some ⟨p1, 0, none⟩) l1.length l1.length)) (by omega)).put (b := w.heap.size + 1 + 1) (i := 1) (u := (.slice (some ⟨p2, 0, none⟩) l2.length l2.length)) (by omega)
 try go_wp2_with fail
 refine hK.out _ _ T14 (fun hS14 => ?_)
 clear hK K
 try simp only [pu0, puN, pu1, pu2, pu3]
 refine wpAnyH_take (i := 14) (oi := ({ dst := some 7, op := Op.assign (Operand.const (Value.int IntKind.i64 0)), type := 33, pos := "states.go:15", after := #[{ on := 13, ground := Ground.chain }, { on := 0, ground := Ground.phase }, { on := 1, ground := Ground.phase }, { on := 2, ground := Ground.phase }, { on := 3, ground := Ground.phase }, { on := 4, ground := Ground.phase }, { on := 5, ground := Ground.phase }, { on := 6, ground := Ground.phase }, { on := 7, ground := Ground.phase }, { on := 8, ground := Ground.phase }, { on := 9, ground := Ground.phase }, { on := 10, ground := Ground.phase }, { on := 11, ground := Ground.phase }, { on := 12, ground := Ground.phase }, { on := 13, ground := Ground.phase }], guard := none } : Oper)) (v := ?av15) rfl (by kernel_rfl) (by kernel_rfl) (by kernel_rfl) (fun _ _ _ h => h) (Or.inl ⟨by rfl, ?ay15⟩) T14 ?_
 case ay15 => (intro V hSw; go_simp; try with_reducible rfl)
 try simp only [pu0, puN, pu1, pu2, pu3]
 refine wpAnyH_done (by kernel_rfl) ?_ _
 have z0 := kcells_of RR.out 0
 have z1 := kcells_of RR.out 1
 simp only [List.getElem?_toArray, List.getElem?_cons_succ, List.getElem?_cons_zero] at z0 z1
 go_wp2
 refine bodyPost_ret (v := .tuple #[.agg #[.slice (some ⟨p1, 0, none⟩) l1.length l1.length, .slice (some ⟨p2, 0, none⟩) l2.length l2.length], .int .i64 0]) (by simp [results, results46, go_sem, z0, z1]) rfl ?_
 exact ⟨p1, l1, p2, l2, rfl, hp1w, h12, K1'.out, K2'.out, JL1.out, JL2.out, T14.below⟩
set_option maxRecDepth 1000000 in
set_option maxHeartbeats 6400000 in
theorem BelowStates_any {B : Nat} (la sa lb sb : List KQ) (ax ay bx by_ : Value) (w : World) (h : HT Bt tb mb A cap ow cs cl sl S w) (hax : KRow B w ax la) (hay : KRow B w ay sa) (hbx : KRow B w bx lb) (hby : KRow B w by_ sb) (hB : B ≤ w.heap.size)
  (z1 : Small la) (z2 : Small sa) (z3 : Small lb) (z4 : Small sb) :
  Calls Tryz.prog 50 #[.pointer (some ⟨tb, 0, none⟩), .agg #[ax, ay], .agg #[bx, by_]] w fun e w' => BAns (sa.length = sb.length ∧ BelowL cs la lb ∧ BelowL cs sa sb) w w' e := by
 obtain ⟨A1, c1, rfl, _, hm1⟩ := hax.form
 obtain ⟨A2, c2, rfl, _, hm2⟩ := hay.form
 obtain ⟨A3, c3, rfl, _, hm3⟩ := hbx.form
 obtain ⟨A4, c4, rfl, _, hm4⟩ := hby.form
 have HB := Lib.hid hB
 have Hax := Lib.hid hax
 have Hay := Lib.hid hay
 have Hbx := Lib.hid hbx
 have Hby := Lib.hid hby
 have hMa : ((sa.length : Nat) : Int) ≤ 9223372036854775807 := by unfold maxLen at hm2; omega
 have hMb : ((sb.length : Nat) : Int) ≤ 9223372036854775807 := by unfold maxLen at hm4; omega
 have TS := Lib.hid (SB2.start w (.slice A1 la.length c1) (.slice A2 sa.length c2) (.slice A3 lb.length c3) (.slice A4 sb.length c4))
 clear hax hay hbx hby hm1 hm2 hm3 hm4
 have HT := Lib.hid h
 clear h hB
 go_enter Tryz.func50, Tryz.ntmps50
 by_cases he : sa.length = sb.length
 ·have e1 : (((sa.length : Nat) : Int) == ((sb.length : Nat) : Int)) = true := by rw [he]; simp
  have HE := Lib.hid he
  clear he
  go_wp2_with fail
  refine (allBelow_any (B := B) la lb _ _ _ (HT.out.below (TS.out.below.mono HT.out.hB)) (Hax.out.below (TS.out.below.mono HB.out)) (Hbx.out.below (TS.out.below.mono HB.out)) (Nat.le_trans HB.out TS.out.below.size) z1 z3).mono ?_
  rintro e w1 ⟨r, rfl, hr, hb1⟩
  have T1 := Lib.hid (TS.out.next hb1)
  have HR := Lib.hid hr
  clear hr hb1
  cases r with
  | false =>
   go_wp2
   go_ret
   exact ⟨false, rfl, ⟨fun h => (by cases h), fun h => absurd (HR.out.2 h.2.1) (by simp)⟩, T1.out.below⟩
  | true =>
   have a0 := kcells_of T1.out.a 0
   have a1 := kcells_of T1.out.a 1
   have b0 := kcells_of T1.out.b 0
   have b1 := kcells_of T1.out.b 1
   simp only [List.getElem?_toArray, List.getElem?_cons_succ, List.getElem?_cons_zero] at a0 a1 b0 b1
   go_wp2_with fail
   refine (allBelow_any (B := B) sa sb _ _ _ (HT.out.below (T1.out.below.mono HT.out.hB)) (Hay.out.below (T1.out.below.mono HB.out)) (Hby.out.below (T1.out.below.mono HB.out)) (Nat.le_trans HB.out T1.out.below.size) z2 z4).mono ?_
   rintro e w2 ⟨r2, rfl, hr2, hb2⟩
   have T2 := Lib.hid (T1.out.next hb2)
   have HR2 := Lib.hid hr2
   clear hr2 hb2 a0 a1 b0 b1
   go_wp2
   go_ret
   exact ⟨r2, rfl, ⟨fun h => ⟨HE.out, HR.out.1 (by first | rfl | trivial), HR2.out.1 h⟩, fun h => HR2.out.2 h.2.2⟩, T2.out.below⟩
 ·have e1 : (((sa.length : Nat) : Int) == ((sb.length : Nat) : Int)) = false := by simp; omega
  have HE := Lib.hid he
  clear he
  go_wp2
  go_ret
  exact ⟨false, rfl, ⟨fun h => (by cases h), fun h => absurd h.1 HE.out⟩, TS.out.below⟩
end
set_option maxRecDepth 1000000 in
set_option maxHeartbeats 6400000 in
theorem Same_any {B : Nat} (la sa lb sb : List KQ) (ax ay bx by_ : Value) (w : World) (hax : KRow B w ax la) (hay : KRow B w ay sa) (hbx : KRow B w bx lb) (hby : KRow B w by_ sb) (hB : B ≤ w.heap.size) :
  Calls Tryz.prog 52 #[.agg #[ax, ay], .agg #[bx, by_]] w fun e w' => e = .returned (.bool (decide (la = lb) && decide (sa = sb))) ∧ Below w.heap.size w w' := by
 obtain ⟨A1, c1, rfl, _, hm1⟩ := hax.form
 obtain ⟨A2, c2, rfl, _, hm2⟩ := hay.form
 obtain ⟨A3, c3, rfl, _, hm3⟩ := hbx.form
 obtain ⟨A4, c4, rfl, _, hm4⟩ := hby.form
 have HB := Lib.hid hB
 have Hax := Lib.hid hax
 have Hay := Lib.hid hay
 have Hbx := Lib.hid hbx
 have Hby := Lib.hid hby
 have hMa : ((sa.length : Nat) : Int) ≤ 9223372036854775807 := by unfold maxLen at hm2; omega
 have hMb : ((sb.length : Nat) : Int) ≤ 9223372036854775807 := by unfold maxLen at hm4; omega
 have TS := Lib.hid (SB2.start w (.slice A1 la.length c1) (.slice A2 sa.length c2) (.slice A3 lb.length c3) (.slice A4 sb.length c4))
 clear hax hay hbx hby hm1 hm2 hm3 hm4
 clear hB
 have E1 := Lib.hid (fun W hW => Equal64_any (B := B) la lb (.slice A1 la.length c1) (.slice A3 lb.length c3) W (Hax.out.below (Below.mono hW HB.out)) (Hbx.out.below (Below.mono hW HB.out)) (Nat.le_trans HB.out (Below.size hW)))
 have E2 := Lib.hid (fun W hW => Equal64_any (B := B) sa sb (.slice A2 sa.length c2) (.slice A4 sb.length c4) W (Hay.out.below (Below.mono hW HB.out)) (Hby.out.below (Below.mono hW HB.out)) (Nat.le_trans HB.out (Below.size hW)))
 generalize decide (la = lb) = r1 at *
 generalize decide (sa = sb) = r2 at *
 go_enter Tryz.func52, Tryz.ntmps52
 go_wp2_with fail
 refine (E1.out _ TS.out.below).mono ?_
 rintro e w1 ⟨rfl, hb1⟩
 have T1 := Lib.hid (TS.out.next hb1)
 clear hb1
 cases r1 with
 | false =>
  go_wp2
  go_ret
  exact ⟨rfl, T1.out.below⟩
 | true =>
  have a0 := kcells_of T1.out.a 0
  have a1 := kcells_of T1.out.a 1
  have b0 := kcells_of T1.out.b 0
  have b1 := kcells_of T1.out.b 1
  simp only [List.getElem?_toArray, List.getElem?_cons_succ, List.getElem?_cons_zero] at a0 a1 b0 b1
  go_wp2_with fail
  refine (E2.out _ T1.out.below).mono ?_
  rintro e w2 ⟨rfl, hb2⟩
  have T2 := Lib.hid (T1.out.next hb2)
  clear hb2 a0 a1 b0 b1
  go_wp2
  go_ret
  exact ⟨rfl, T2.out.below⟩
set_option maxRecDepth 1000000 in
set_option maxHeartbeats 6400000 in
theorem CloneS_any {B : Nat} (la sa : List KQ) (ax ay : Value) (w : World) (hax : KRow B w ax la) (hay : KRow B w ay sa) (hB : B ≤ w.heap.size) (p1 : Plc ax) (p2 : Plc ay) (n1 : la.length ≤ 1000000) (n2 : sa.length ≤ 1000000) :
  Calls Tryz.prog 49 #[.agg #[ax, ay]] w fun e w' => ∃ v1 v2 X, e = .returned (.agg #[v1, v2]) ∧ w.heap.size + 2 ≤ X ∧ X ≤ w'.heap.size ∧ w'.ownsRow (w.heap.size + 2) 64 4 v1 la.length (kcells la) ∧ KRow X w' v1 la ∧ w'.ownsRow X 64 4 v2 sa.length (kcells sa) ∧ Below w.heap.size w w' := by
 obtain ⟨A1, c1, rfl, _, _⟩ := hax.form
 obtain ⟨A2, c2, rfl, _, _⟩ := hay.form
 have HB := Lib.hid hB
 have Hax := Lib.hid hax
 have Hay := Lib.hid hay
 have P1 := Lib.hid p1
 have P2 := Lib.hid p2
 have T0 := Lib.hid (SB2.start w (.slice A1 la.length c1) (.slice A2 sa.length c2) (.slice none 0 0) (.slice none 0 0))
 clear hax hay hB p1 p2
 obtain ⟨w1, hw1⟩ : ∃ x, x = ((w.alloc (.cells #[.slice A1 la.length c1, .slice A2 sa.length c2] 75)).alloc (.cells #[.slice none 0 0, .slice none 0 0] 75)) := ⟨_, rfl⟩
 go_enter Tryz.func49, Tryz.ntmps49
 go_upto_region 1 with fail
 rw [← hw1] at T0 ⊢
 have hz1 : w1.heap.size = w.heap.size + 2 := by rw [hw1]; simp
 clear hw1
 have HR0 := Lib.hid T0.out.b
 have TS : w1.drew.heap[w.heap.size]? = some (.cells #[.slice A1 la.length c1, .slice A2 sa.length c2] 75 (0, 0)) ∧ Below w.heap.size w w1.drew ∧ w.heap.size + 2 ≤ w1.drew.heap.size := ⟨T0.out.a, T0.out.below.drew, T0.out.sz⟩
 clear T0
 have T0 := TS
 refine wp_region_held_drew (S := fun W => W.heap[w.heap.size]? = some (.cells #[.slice A1 la.length c1, .slice A2 sa.length c2] 75 (0, 0)) ∧ Below w.heap.size w W ∧ w.heap.size + 2 ≤ W.heap.size) (by kernel_rfl) T0 (fun hS0 => ?_)
 refine wpAnyH_take (i := 0) (oi := ({ dst := some 3, op := Op.fieldAddr 75 (Operand.tmp 1) 0, type := 0, pos := "states.go:23", after := #[], guard := none } : Oper)) (v := ?av16) rfl (by kernel_rfl) (by kernel_rfl) (by kernel_rfl) (fun _ _ _ h => h) (Or.inl ⟨by rfl, ?ay16⟩) T0 ?_
 case ay16 => (intro V hSw; go_simp; try with_reducible rfl)
 try simp only [pu0, puN, pu1, pu2, pu3]
 refine wpAnyH_take (i := 1) (oi := ({ dst := some 4, op := Op.load 60 (Operand.tmp 3), type := 60, pos := "states.go:23", after := #[{ on := 0, ground := Ground.data }], guard := none } : Oper)) (v := ?av17) rfl (by kernel_rfl) (by kernel_rfl) (by kernel_rfl) (fun _ _ _ h => h) (Or.inl ⟨by rfl, ?ay17⟩) T0 ?_
 case ay17 => (intro V hSw; have c0 : V.cell? ⟨w.heap.size, 0, none⟩ = some (.slice A1 la.length c1) := kcells_of hSw.1 0; go_simp; try with_reducible rfl)
 try simp only [pu0, puN, pu1, pu2, pu3]
 refine wpAnyH_take (i := 3) (oi := ({ dst := some 6, op := Op.fieldAddr 75 (Operand.tmp 1) 1, type := 0, pos := "states.go:23", after := #[], guard := none } : Oper)) (v := ?av18) rfl (by kernel_rfl) (by kernel_rfl) (by kernel_rfl) (fun _ _ _ h => h) (Or.inl ⟨by rfl, ?ay18⟩) T0 ?_
 case ay18 => (intro V hSw; go_simp; try with_reducible rfl)
 try simp only [pu0, puN, pu1, pu2, pu3]
 refine wpAnyH_take (i := 4) (oi := ({ dst := some 7, op := Op.load 60 (Operand.tmp 6), type := 60, pos := "states.go:23", after := #[{ on := 3, ground := Ground.data }], guard := none } : Oper)) (v := ?av19) rfl (by kernel_rfl) (by kernel_rfl) (by kernel_rfl) (fun _ _ _ h => h) (Or.inl ⟨by rfl, ?ay19⟩) T0 ?_
 case ay19 => (intro V hSw; have c1 : V.cell? ⟨w.heap.size, 1, none⟩ = some (.slice A2 sa.length c2) := kcells_of hSw.1 1; go_simp; try with_reducible rfl)
 try simp only [pu0, puN, pu1, pu2, pu3]
 refine wpAnyH_ready (rs := [2]) (by kernel_rfl) (by simp) ?_
 refine (AllReadyH.cons (o := _) rfl (fun K hK => ?_) AllReadyH.nil)
 go_simp
 refine (cloneK_any (B := B) (l := la) (Hax.out.below (T0.2.1.mono HB.out)) P1.out n1).mono ?_
 rintro e P20 ⟨v1, rfl, own1, hb20⟩
 have HR20 := Lib.hid ((hb20.block _ (lt_of_block (show w1.drew.heap[w.heap.size + 1]? = _ from HR0.out))).trans HR0.out)
 have T20 : P20.heap[w.heap.size]? = some (.cells #[.slice A1 la.length c1, .slice A2 sa.length c2] 75 (0, 0)) ∧ Below w.heap.size w P20 ∧ w.heap.size + 2 ≤ P20.heap.size := ⟨(hb20.block _ (lt_of_block T0.1)).trans T0.1, Below.hlink T0.2.1 hb20, Nat.le_trans T0.2.2 hb20.size⟩
 have hX1 : w.heap.size + 2 ≤ P20.heap.size := T20.2.2
 have OW1 := Lib.hid own1
 have KR1 := Lib.hid (show KRow P20.heap.size P20 v1 la from Row.hof_own own1)
 obtain ⟨q1, s1, rfl⟩ := hown_form own1
 clear own1
 try go_wp2_with fail
 refine hK.out _ _ T20 (fun hS20 => ?_)
 clear hK K
 try simp only [pu0, puN, pu1, pu2, pu3]
 refine wpAnyH_ready (rs := [5]) (by kernel_rfl) (by simp) ?_
 refine (AllReadyH.cons (o := _) rfl (fun K hK => ?_) AllReadyH.nil)
 go_simp
 refine (cloneK_any (B := B) (l := sa) (Hay.out.below (T20.2.1.mono HB.out)) P2.out n2).mono ?_
 rintro e P21 ⟨v2, rfl, own2, hb21⟩
 have HR21 := Lib.hid ((hb21.block _ (lt_of_block (show P20.heap[w.heap.size + 1]? = _ from HR20.out))).trans HR20.out)
 have T21 : P21.heap[w.heap.size]? = some (.cells #[.slice A1 la.length c1, .slice A2 sa.length c2] 75 (0, 0)) ∧ Below w.heap.size w P21 ∧ w.heap.size + 2 ≤ P21.heap.size := ⟨(hb21.block _ (lt_of_block T20.1)).trans T20.1, Below.hlink T20.2.1 hb21, Nat.le_trans T20.2.2 hb21.size⟩
 have OW2 := Lib.hid own2
 replace KR1 := Lib.hid (KR1.out.below hb21)
 replace OW1 := Lib.hid (hown_below OW1.out hb21)
 have hX2 : P20.heap.size ≤ P21.heap.size := hb21.size
 obtain ⟨q2, s2, rfl⟩ := hown_form own2
 clear own2
 try go_wp2_with fail
 refine hK.out _ _ T21 (fun hS21 => ?_)
 clear hK K
 try simp only [pu0, puN, pu1, pu2, pu3]
 refine wpAnyH_take (i := 6) (oi := ({ dst := some 9, op := Op.build 75 #[(0, Operand.tmp 5), (1, Operand.tmp 8)], type := 75, pos := "states.go:23", after := #[{ on := 2, ground := Ground.data }, { on := 5, ground := Ground.data }], guard := none } : Oper)) (v := ?av22) rfl (by kernel_rfl) (by kernel_rfl) (by kernel_rfl) (fun _ _ _ h => h) (Or.inl ⟨by rfl, ?ay22⟩) T21 ?_
 case ay22 => (intro V hSw; go_simp; try with_reducible rfl)
 try simp only [pu0, puN, pu1, pu2, pu3]
 refine wpAnyH_ready (rs := [7]) (by kernel_rfl) (by simp) ?_
 refine (AllReadyH.cons (o := _) rfl (fun K hK => ?_) AllReadyH.nil)
 go_simp
 skip
 have HR := HR21.out
 have r0 := kcells_of HR 0
 have r1 := kcells_of HR 1
 simp only [List.getElem?_toArray, List.getElem?_cons_succ, List.getElem?_cons_zero] at r0 r1
 have rf := kfree_of HR
 have hlr2 := lt_of_block HR
 go_simp
 have RR := Lib.hid (set2 HR (.slice q1 la.length s1) (.slice q2 sa.length s2))
 have O1 := Lib.hid (own_set_ty (own_set_ty OW1.out HR (by decide) 0 (.slice q1 la.length s1)) (heap_set_eq HR) (by decide) 1 (.slice q2 sa.length s2))
 have O2 := Lib.hid (own_set_ty (own_set_ty OW2.out HR (by decide) 0 (.slice q1 la.length s1)) (heap_set_eq HR) (by decide) 1 (.slice q2 sa.length s2))
 have KB : KRow P20.heap.size (((P21).setCell ⟨w.heap.size + 1, 0, none⟩ (.slice q1 la.length s1)).setCell ⟨w.heap.size + 1, 1, none⟩ (.slice q2 sa.length s2)) (.slice q1 la.length s1) la := KRow.ofown KR1.out O1.out
 have T23 : (((P21).setCell ⟨w.heap.size + 1, 0, none⟩ (.slice q1 la.length s1)).setCell ⟨w.heap.size + 1, 1, none⟩ (.slice q2 sa.length s2)).heap[w.heap.size]? = some (.cells #[.slice A1 la.length c1, .slice A2 sa.length c2] 75 (0, 0)) ∧ Below w.heap.size w (((P21).setCell ⟨w.heap.size + 1, 0, none⟩ (.slice q1 la.length s1)).setCell ⟨w.heap.size + 1, 1, none⟩ (.slice q2 sa.length s2)) ∧ w.heap.size + 2 ≤ (((P21).setCell ⟨w.heap.size + 1, 0, none⟩ (.slice q1 la.length s1)).setCell ⟨w.heap.size + 1, 1, none⟩ (.slice q2 sa.length s2)).heap.size := ⟨(Below.heap_setCell _ _ _ _ (by show w.heap.size ≠ w.heap.size + 1; omega)).trans ((Below.heap_setCell _ _ _ _ (by show w.heap.size ≠ w.heap.size + 1; omega)).trans T21.1), (T21.2.1.setCell (by show w.heap.size ≤ w.heap.size + 1; omega) _).setCell (by show w.heap.size ≤ w.heap.size + 1; omega) _, by simpa [World.setCell] using T21.2.2⟩
 try go_wp2_with fail
 refine hK.out _ _ T23 (fun hS23 => ?_)
 clear hK K
 try simp only [pu0, puN, pu1, pu2, pu3]
 refine wpAnyH_done (by kernel_rfl) ?_ _
 have z0 := kcells_of RR.out 0
 have z1 := kcells_of RR.out 1
 simp only [List.getElem?_toArray, List.getElem?_cons_succ, List.getElem?_cons_zero] at z0 z1
 go_wp2
 refine bodyPost_ret (v := .agg #[.slice q1 la.length s1, .slice q2 sa.length s2]) (by simp [results, results49, go_sem, z0, z1]) rfl ?_
 exact ⟨_, _, _, rfl, hX1, by simpa [World.setCell] using hX2, (by have o := O1.out; rw [show w1.drew.heap.size = w.heap.size + 2 from hz1] at o; exact o), KB, O2.out, T23.2.1⟩
end Go.Proofs.YtmaknddlgppinaaGreatDoor
