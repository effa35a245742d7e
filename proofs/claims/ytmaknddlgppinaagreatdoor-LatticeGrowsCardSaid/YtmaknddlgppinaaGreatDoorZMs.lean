/-
  Clone of a state, with where its rows stand.
-/
import Derived.Test.YtmaknddlgppinaaGreatDoorZMq
import Derived.Test.YtmaknddlgppinaaGreatDoorZ42
import Derived.Test.YtmaknddlgppinaaGreatDoorZ46
set_option linter.unusedVariables false
set_option linter.unusedSimpArgs false
namespace Go.Proofs.YtmaknddlgppinaaGreatDoor
open Go.RowKit

theorem own_lt {w : World} {base : Nat} {e : TypeId} {size n : Nat} {v : Value} {xs : List Value} (h : w.ownsRow base e size v n xs) : ∀ g, v.ownBlock = some g → g < w.heap.size := by
  intro g hg
  rcases h.2 with ⟨rfl, _⟩ | ⟨g', cap, cur, rfl, _, hgg, _⟩
  · cases hg
  · injection hg with hg
    subst hg
    exact lt_of_block hgg
set_option maxRecDepth 1000000 in
set_option maxHeartbeats 6400000 in
theorem CloneS2_any {B : Nat} (la sa : List KQ) (ax ay : Value) (w : World) (hax : KRow B w ax la) (hay : KRow B w ay sa) (hB : B ≤ w.heap.size) (p1 : Plc ax) (p2 : Plc ay) (n1 : la.length ≤ 1000000) (n2 : sa.length ≤ 1000000) :
    Calls Tryz.prog 49 #[.agg #[ax, ay]] w fun e w' => ∃ v1 v2 X, e = .returned (.agg #[v1, v2]) ∧ w.heap.size + 2 ≤ X ∧ X ≤ w'.heap.size ∧ w'.ownsRow (w.heap.size + 2) 64 4 v1 la.length (kcells la) ∧ KRow X w' v1 la ∧ w'.ownsRow X 64 4 v2 sa.length (kcells sa) ∧ (∀ g, v1.ownBlock = some g → g < X) ∧ Below w.heap.size w w' := by
  obtain ⟨A1, c1, rfl, _, _⟩ := hax.form
  obtain ⟨A2, c2, rfl, _, _⟩ := hay.form
  have HB := Lib.hid hB
  have Hax := Lib.hid hax
  have Hay := Lib.hid hay
  have P1 := Lib.hid p1
  have P2 := Lib.hid p2
  have T0 := Lib.hid (SB2.start w (.slice A1 la.length c1) (.slice A2 sa.length c2) (.slice none 0 0) (.slice none 0 0))
  clear hax hay hB p1 p2
  obtain ⟨w1, hw1⟩ : ∃ x, x = ((w.alloc (.cells #[.slice A1 la.length c1, .slice A2 sa.length c2] 75)).alloc (.cells #[.slice none 0 0, .slice none 0 0] 75)) := ⟨_, rfl⟩
  go_enter Tryz.func49, Tryz.ntmps49
  go_upto_region 1 with fail
  rw [← hw1] at T0 ⊢
  have hz1 : w1.heap.size = w.heap.size + 2 := by rw [hw1]; simp
  clear hw1
  have HR0 := Lib.hid T0.out.b
  have TS : w1.drew.heap[w.heap.size]? = some (.cells #[.slice A1 la.length c1, .slice A2 sa.length c2] 75 (0, 0)) ∧ Below w.heap.size w w1.drew ∧ w.heap.size + 2 ≤ w1.drew.heap.size := ⟨T0.out.a, T0.out.below.drew, T0.out.sz⟩
  clear T0
  have T0 := TS
  refine wp_region_held_drew (S := fun W => W.heap[w.heap.size]? = some (.cells #[.slice A1 la.length c1, .slice A2 sa.length c2] 75 (0, 0)) ∧ Below w.heap.size w W ∧ w.heap.size + 2 ≤ W.heap.size) (by kernel_rfl) T0 (fun hS0 => ?_)
  refine wpAnyH_take (i := 0) (oi := ({ dst := some 3, op := Op.fieldAddr 75 (Operand.tmp 1) 0, type := 0, pos := "states.go:23", after := #[], guard := none } : Oper)) (v := ?av16) rfl (by kernel_rfl) (by kernel_rfl) (by kernel_rfl) (fun _ _ _ h => h) (Or.inl ⟨by rfl, ?ay16⟩) T0 ?_
  case ay16 => (intro V hSw; go_simp; try with_reducible rfl)
  try simp only [Act.put, List.setIfInBounds_toArray, List.set_cons_zero, List.set_cons_succ]
  refine wpAnyH_take (i := 1) (oi := ({ dst := some 4, op := Op.load 60 (Operand.tmp 3), type := 60, pos := "states.go:23", after := #[{ on := 0, ground := Ground.data }], guard := none } : Oper)) (v := ?av17) rfl (by kernel_rfl) (by kernel_rfl) (by kernel_rfl) (fun _ _ _ h => h) (Or.inl ⟨by rfl, ?ay17⟩) T0 ?_
  case ay17 => (intro V hSw; have c0 : V.cell? ⟨w.heap.size, 0, none⟩ = some (.slice A1 la.length c1) := kcells_of hSw.1 0; go_simp; try with_reducible rfl)
  try simp only [Act.put, List.setIfInBounds_toArray, List.set_cons_zero, List.set_cons_succ]
  refine wpAnyH_take (i := 3) (oi := ({ dst := some 6, op := Op.fieldAddr 75 (Operand.tmp 1) 1, type := 0, pos := "states.go:23", after := #[], guard := none } : Oper)) (v := ?av18) rfl (by kernel_rfl) (by kernel_rfl) (by kernel_rfl) (fun _ _ _ h => h) (Or.inl ⟨by rfl, ?ay18⟩) T0 ?_
  case ay18 => (intro V hSw; go_simp; try with_reducible rfl)
  try simp only [Act.put, List.setIfInBounds_toArray, List.set_cons_zero, List.set_cons_succ]
  refine wpAnyH_take (i := 4) (oi := ({ dst := some 7, op := Op.load 60 (Operand.tmp 6), type := 60, pos := "states.go:23", after := #[{ on := 3, ground := Ground.data }], guard := none } : Oper)) (v := ?av19) rfl (by kernel_rfl) (by kernel_rfl) (by kernel_rfl) (fun _ _ _ h => h) (Or.inl ⟨by rfl, ?ay19⟩) T0 ?_
  case ay19 => (intro V hSw; have c1 : V.cell? ⟨w.heap.size, 1, none⟩ = some (.slice A2 sa.length c2) := kcells_of hSw.1 1; go_simp; try with_reducible rfl)
  try simp only [Act.put, List.setIfInBounds_toArray, List.set_cons_zero, List.set_cons_succ]
  refine wpAnyH_ready (rs := [2]) (by kernel_rfl) (by simp) ?_
  refine (AllReadyH.cons (o := _) rfl (fun K hK => ?_) AllReadyH.nil)
  go_simp
  refine (cloneK_any (B := B) (l := la) (Hax.out.below (T0.2.1.mono HB.out)) P1.out n1).mono ?_
  rintro e P20 ⟨v1, rfl, own1, hb20⟩
  have HR20 := Lib.hid ((hb20.block _ (lt_of_block (show w1.drew.heap[w.heap.size + 1]? = _ from HR0.out))).trans HR0.out)
  have T20 : P20.heap[w.heap.size]? = some (.cells #[.slice A1 la.length c1, .slice A2 sa.length c2] 75 (0, 0)) ∧ Below w.heap.size w P20 ∧ w.heap.size + 2 ≤ P20.heap.size := ⟨(hb20.block _ (lt_of_block T0.1)).trans T0.1, Below.hlink T0.2.1 hb20, Nat.le_trans T0.2.2 hb20.size⟩
  have hX1 : w.heap.size + 2 ≤ P20.heap.size := T20.2.2
  have OW1 := Lib.hid own1
  have LT1 := Lib.hid (own_lt own1)
  have KR1 := Lib.hid (show KRow P20.heap.size P20 v1 la from Row.hof_own own1)
  obtain ⟨q1, s1, rfl⟩ := hown_form own1
  clear own1
  try go_wp2_with fail
  refine hK.out _ _ T20 (fun hS20 => ?_)
  clear hK K
  try simp only [Act.put, List.setIfInBounds_toArray, List.set_cons_zero, List.set_cons_succ]
  refine wpAnyH_ready (rs := [5]) (by kernel_rfl) (by simp) ?_
  refine (AllReadyH.cons (o := _) rfl (fun K hK => ?_) AllReadyH.nil)
  go_simp
  refine (cloneK_any (B := B) (l := sa) (Hay.out.below (T20.2.1.mono HB.out)) P2.out n2).mono ?_
  rintro e P21 ⟨v2, rfl, own2, hb21⟩
  have HR21 := Lib.hid ((hb21.block _ (lt_of_block (show P20.heap[w.heap.size + 1]? = _ from HR20.out))).trans HR20.out)
  have T21 : P21.heap[w.heap.size]? = some (.cells #[.slice A1 la.length c1, .slice A2 sa.length c2] 75 (0, 0)) ∧ Below w.heap.size w P21 ∧ w.heap.size + 2 ≤ P21.heap.size := ⟨(hb21.block _ (lt_of_block T20.1)).trans T20.1, Below.hlink T20.2.1 hb21, Nat.le_trans T20.2.2 hb21.size⟩
  have OW2 := Lib.hid own2
  replace KR1 := Lib.hid (KR1.out.below hb21)
  replace OW1 := Lib.hid (hown_below OW1.out hb21)
  have hX2 : P20.heap.size ≤ P21.heap.size := hb21.size
  obtain ⟨q2, s2, rfl⟩ := hown_form own2
  clear own2
  try go_wp2_with fail
  refine hK.out _ _ T21 (fun hS21 => ?_)
  clear hK K
  try simp only [Act.put, List.setIfInBounds_toArray, List.set_cons_zero, List.set_cons_succ]
  refine wpAnyH_take (i := 6) (oi := ({ dst := some 9, op := Op.build 75 #[(0, Operand.tmp 5), (1, Operand.tmp 8)], type := 75, pos := "states.go:23", after := #[{ on := 2, ground := Ground.data }, { on := 5, ground := Ground.data }], guard := none } : Oper)) (v := ?av22) rfl (by kernel_rfl) (by kernel_rfl) (by kernel_rfl) (fun _ _ _ h => h) (Or.inl ⟨by rfl, ?ay22⟩) T21 ?_
  case ay22 => (intro V hSw; go_simp; try with_reducible rfl)
  try simp only [Act.put, List.setIfInBounds_toArray, List.set_cons_zero, List.set_cons_succ]
  refine wpAnyH_ready (rs := [7]) (by kernel_rfl) (by simp) ?_
  refine (AllReadyH.cons (o := _) rfl (fun K hK => ?_) AllReadyH.nil)
  go_simp
  skip
  have HR := HR21.out
  have r0 := kcells_of HR 0
  have r1 := kcells_of HR 1
  simp only [List.getElem?_toArray, List.getElem?_cons_succ, List.getElem?_cons_zero] at r0 r1
  have rf := kfree_of HR
  have hlr2 := lt_of_block HR
  go_simp
  have RR := Lib.hid (set2 HR (.slice q1 la.length s1) (.slice q2 sa.length s2))
  have O1 := Lib.hid (own_set_ty (own_set_ty OW1.out HR (by decide) 0 (.slice q1 la.length s1)) (heap_set_eq HR) (by decide) 1 (.slice q2 sa.length s2))
  have O2 := Lib.hid (own_set_ty (own_set_ty OW2.out HR (by decide) 0 (.slice q1 la.length s1)) (heap_set_eq HR) (by decide) 1 (.slice q2 sa.length s2))
  have KB : KRow P20.heap.size (((P21).setCell ⟨w.heap.size + 1, 0, none⟩ (.slice q1 la.length s1)).setCell ⟨w.heap.size + 1, 1, none⟩ (.slice q2 sa.length s2)) (.slice q1 la.length s1) la := KRow.ofown KR1.out O1.out
  have T23 : (((P21).setCell ⟨w.heap.size + 1, 0, none⟩ (.slice q1 la.length s1)).setCell ⟨w.heap.size + 1, 1, none⟩ (.slice q2 sa.length s2)).heap[w.heap.size]? = some (.cells #[.slice A1 la.length c1, .slice A2 sa.length c2] 75 (0, 0)) ∧ Below w.heap.size w (((P21).setCell ⟨w.heap.size + 1, 0, none⟩ (.slice q1 la.length s1)).setCell ⟨w.heap.size + 1, 1, none⟩ (.slice q2 sa.length s2)) ∧ w.heap.size + 2 ≤ (((P21).setCell ⟨w.heap.size + 1, 0, none⟩ (.slice q1 la.length s1)).setCell ⟨w.heap.size + 1, 1, none⟩ (.slice q2 sa.length s2)).heap.size := ⟨(Below.heap_setCell _ _ _ _ (by show w.heap.size ≠ w.heap.size + 1; omega)).trans ((Below.heap_setCell _ _ _ _ (by show w.heap.size ≠ w.heap.size + 1; omega)).trans T21.1), (T21.2.1.setCell (by show w.heap.size ≤ w.heap.size + 1; omega) _).setCell (by show w.heap.size ≤ w.heap.size + 1; omega) _, by simpa [World.setCell] using T21.2.2⟩
  try go_wp2_with fail
  refine hK.out _ _ T23 (fun hS23 => ?_)
  clear hK K
  try simp only [Act.put, List.setIfInBounds_toArray, List.set_cons_zero, List.set_cons_succ]
  refine wpAnyH_done (by kernel_rfl) ?_ _
  have z0 := kcells_of RR.out 0
  have z1 := kcells_of RR.out 1
  simp only [List.getElem?_toArray, List.getElem?_cons_succ, List.getElem?_cons_zero] at z0 z1
  go_wp2
  refine bodyPost_ret (v := .agg #[.slice q1 la.length s1, .slice q2 sa.length s2]) (by simp [results, results49, go_sem, z0, z1]) rfl ?_
  exact ⟨_, _, _, rfl, hX1, by simpa [World.setCell] using hX2, (by have o := O1.out; rw [show w1.drew.heap.size = w.heap.size + 2 from hz1] at o; exact o), KB, O2.out, LT1.out, T23.2.1⟩
end Go.Proofs.YtmaknddlgppinaaGreatDoor
