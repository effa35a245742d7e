/-
  WALK of the document's Of.
-/
import Derived.Test.YtgepgbpjdjbelaaRr
set_option linter.unusedVariables false
set_option linter.unusedSimpArgs false
namespace Go.Proofs.Ytgepgbpjdjbelaa
open Go.RowKit

structure SXr (w : World) (B : Nat) (s1 s2 : Value) (q1 q2 : List KQ) (U : World) : Prop where
  box : U.heap[w.heap.size]? = some (.cells #[s1, s2] 31 (0, 0))
  res : ∃ p q, U.heap[w.heap.size + 1]? = some (.cells #[p, q] 32 (0, 0))
  r1 : KRow B U s1 q1
  r2 : KRow B U s2 q2
  below : Below w.heap.size w U
theorem SXr.next {w U U' : World} {B : Nat} {s1 s2 : Value} {q1 q2 : List KQ} (h : SXr w B s1 s2 q1 q2 U) (hB : B ≤ w.heap.size) (hb : Below U.heap.size U U') : SXr w B s1 s2 q1 q2 U' := by
  obtain ⟨p, q, hr⟩ := h.res
  have hz := h.below.size
  exact ⟨(hb.block _ (lt_of_block h.box)).trans h.box, ⟨p, q, (hb.block _ (lt_of_block hr)).trans hr⟩, h.r1.below hb (by omega), h.r2.below hb (by omega), Below.link' h.below hb⟩
theorem SXr.set {w U : World} {B : Nat} {s1 s2 : Value} {q1 q2 : List KQ} (h : SXr w B s1 s2 q1 q2 U) (u v : Value) (hB : B ≤ w.heap.size := by assumption) : SXr w B s1 s2 q1 q2 ((U.setCell ⟨w.heap.size + 1, 0, none⟩ u).setCell ⟨w.heap.size + 1, 1, none⟩ v) := by
  obtain ⟨p, q, hr⟩ := h.res
  have hb : Below (w.heap.size + 1) U ((U.setCell ⟨w.heap.size + 1, 0, none⟩ u).setCell ⟨w.heap.size + 1, 1, none⟩ v) := ((Below.refl _ U).setCell (p := ⟨w.heap.size + 1, 0, none⟩) (Nat.le_refl _) u).setCell (p := ⟨w.heap.size + 1, 1, none⟩) (Nat.le_refl _) v
  exact ⟨heap_set_ne (by show w.heap.size ≠ w.heap.size + 1; omega) (heap_set_ne (by show w.heap.size ≠ w.heap.size + 1; omega) h.box), ⟨u, v, two_set hr⟩, h.r1.below hb (by omega), h.r2.below hb (by omega), h.below.trans (hb.mono (Nat.le_succ _))⟩
theorem results9 : Try.f9.results = #[ResultVar.cell 2 32] := by kernel_rfl
set_option maxRecDepth 1000000 in
set_option maxHeartbeats 6400000 in
theorem refOf_any (q1 q2 : List KQ) (s1 s2 : Value) (B : Nat) (w : World) (r1 : KRow B w s1 q1) (r2 : KRow B w s2 q2) (hB : B ≤ w.heap.size) (hl1 : q1.length ≤ 4000000000000) (hl2 : q2.length ≤ 4000000000000) :
    Calls Try.prog 9 #[.agg #[s1, s2]] w fun e w' => ∃ v1 v2, e = .returned (.agg #[v1, v2]) ∧ OwnL w' w.heap.size v1 (q1.map isRefQ) ∧ OwnL w' w.heap.size v2 (q2.map isRefQ) ∧ Below w.heap.size w w' := by
  obtain ⟨A1, c1, rfl, _, _⟩ := r1.form
  obtain ⟨A2, c2, rfl, _, _⟩ := r2.form
  have hb0 : Below w.heap.size w ((w.alloc (.cells #[.slice A1 q1.length c1, .slice A2 q2.length c2] 31)).alloc (.cells #[.slice none 0 0, .slice none 0 0] 32)) := ((Below.refl _ w).alloc (Nat.le_refl _) _).alloc (by simp) _
  have hsx0 : SXr w B (.slice A1 q1.length c1) (.slice A2 q2.length c2) q1 q2 ((w.alloc (.cells #[.slice A1 q1.length c1, .slice A2 q2.length c2] 31)).alloc (.cells #[.slice none 0 0, .slice none 0 0] 32)) :=
    ⟨heap_alloc_lt (heap_new w _), ⟨_, _, by have := heap_new (w.alloc (.cells #[.slice A1 q1.length c1, .slice A2 q2.length c2] 31)) (.cells #[.slice none 0 0, .slice none 0 0] 32); rwa [World.size_alloc] at this⟩, r1.below hb0 hB, r2.below hb0 hB, hb0⟩
  obtain ⟨s1, hs1⟩ : ∃ s, Value.slice A1 q1.length c1 = s := ⟨_, rfl⟩
  obtain ⟨s2, hs2⟩ : ∃ s, Value.slice A2 q2.length c2 = s := ⟨_, rfl⟩
  have HSX := Lib.hid hsx0
  clear r1 r2 hb0 hsx0 hs1 hs2 s1 s2
  go_enter Try.func9, Try.ntmps9
  go_wp2
  obtain ⟨W0, hW0⟩ : ∃ W, ((w.alloc (.cells #[.slice A1 q1.length c1, .slice A2 q2.length c2] 31)).alloc (.cells #[.slice none 0 0, .slice none 0 0] 32)) = W := ⟨_, rfl⟩
  rw [hW0] at HSX ⊢
  clear hW0
  have hsx : SXr w B (.slice A1 q1.length c1) (.slice A2 q2.length c2) q1 q2 W0.drew := ⟨HSX.out.box, HSX.out.res, HSX.out.r1, HSX.out.r2, HSX.out.below.drew⟩
  have T0 := hsx
  refine wp_region_held_drew (S := fun U => SXr w B (.slice A1 q1.length c1) (.slice A2 q2.length c2) q1 q2 U) (by kernel_rfl) T0 (fun hS0 => ?_)
  refine wpAnyH_take (i := 0) (oi := ({ dst := some 3, op := Op.fieldAddr 31 (Operand.tmp 1) 0, type := 0, pos := "ref.go:28", after := #[], guard := none } : Oper)) (v := ?av1701) rfl (by kernel_rfl) (by kernel_rfl) (by kernel_rfl) (fun _ _ _ h => h) (Or.inl ⟨by rfl, ?ay1701⟩) T0 ?_
  case ay1701 => (intro V hSw; go_simp; try with_reducible rfl)
  try simp only [Act.put, List.setIfInBounds_toArray, List.set_cons_zero, List.set_cons_succ]
  refine wpAnyH_take (i := 1) (oi := ({ dst := some 4, op := Op.load 29 (Operand.tmp 3), type := 29, pos := "ref.go:28", after := #[{ on := 0, ground := Ground.data }], guard := none } : Oper)) (v := ?av1702) rfl (by kernel_rfl) (by kernel_rfl) (by kernel_rfl) (fun _ _ _ h => h) (Or.inl ⟨by rfl, ?ay1702⟩) T0 ?_
  case ay1702 => (intro V hSw; have t0 := cells_of hSw.box 0; have t1 := cells_of hSw.box 1; simp only [List.getElem?_toArray, List.getElem?_cons_succ, List.getElem?_cons_zero] at t0 t1; go_simp; try with_reducible rfl)
  try simp only [Act.put, List.setIfInBounds_toArray, List.set_cons_zero, List.set_cons_succ]
  refine wpAnyH_take (i := 3) (oi := ({ dst := some 6, op := Op.fieldAddr 31 (Operand.tmp 1) 1, type := 0, pos := "ref.go:28", after := #[], guard := none } : Oper)) (v := ?av1703) rfl (by kernel_rfl) (by kernel_rfl) (by kernel_rfl) (fun _ _ _ h => h) (Or.inl ⟨by rfl, ?ay1703⟩) T0 ?_
  case ay1703 => (intro V hSw; go_simp; try with_reducible rfl)
  try simp only [Act.put, List.setIfInBounds_toArray, List.set_cons_zero, List.set_cons_succ]
  refine wpAnyH_take (i := 4) (oi := ({ dst := some 7, op := Op.load 29 (Operand.tmp 6), type := 29, pos := "ref.go:28", after := #[{ on := 3, ground := Ground.data }], guard := none } : Oper)) (v := ?av1704) rfl (by kernel_rfl) (by kernel_rfl) (by kernel_rfl) (fun _ _ _ h => h) (Or.inl ⟨by rfl, ?ay1704⟩) T0 ?_
  case ay1704 => (intro V hSw; have t0 := cells_of hSw.box 0; have t1 := cells_of hSw.box 1; simp only [List.getElem?_toArray, List.getElem?_cons_succ, List.getElem?_cons_zero] at t0 t1; go_simp; try with_reducible rfl)
  try simp only [Act.put, List.setIfInBounds_toArray, List.set_cons_zero, List.set_cons_succ]
  refine wpAnyH_ready (rs := [2]) (by kernel_rfl) (by simp) ?_
  refine (AllReadyH.cons (o := _) rfl (fun K hK => ?_) AllReadyH.nil)
  go_simp
  refine (refs_any q1 _ B _ T0.r1 (by have := T0.below.size; omega) hl1).mono ?_
  rintro e U1 ⟨v1, rfl, o1, hb1⟩
  obtain ⟨a1, d1, e1⟩ := o1.form
  rw [List.length_map] at e1
  subst e1
  have T1705 := T0.next hB hb1
  have O1 := Lib.hid (show OwnL U1 w.heap.size _ _ from own_mono o1 (by have := T0.below.size; omega))
  clear o1 hb1
  try go_wp2_with fail
  refine hK.out _ _ T1705 (fun hS1705 => ?_)
  clear hK K
  try simp only [Act.put, List.setIfInBounds_toArray, List.set_cons_zero, List.set_cons_succ]
  refine wpAnyH_ready (rs := [5]) (by kernel_rfl) (by simp) ?_
  refine (AllReadyH.cons (o := _) rfl (fun K hK => ?_) AllReadyH.nil)
  go_simp
  refine (refs_any q2 _ B _ T1705.r2 (by have := T1705.below.size; omega) hl2).mono ?_
  rintro e U2 ⟨v2, rfl, o2, hb2⟩
  obtain ⟨a2, d2, e2⟩ := o2.form
  rw [List.length_map] at e2
  subst e2
  have T1706 := T1705.next hB hb2
  have O2 := Lib.hid (show OwnL U2 w.heap.size _ _ from own_mono o2 (by have := T1705.below.size; omega))
  have O3 := Lib.hid (OwnL.below O1.out hb2)
  clear o2 hb2
  try go_wp2_with fail
  refine hK.out _ _ T1706 (fun hS1706 => ?_)
  clear hK K
  try simp only [Act.put, List.setIfInBounds_toArray, List.set_cons_zero, List.set_cons_succ]
  refine wpAnyH_take (i := 6) (oi := ({ dst := some 9, op := Op.build 32 #[(0, Operand.tmp 5), (1, Operand.tmp 8)], type := 32, pos := "ref.go:28", after := #[{ on := 2, ground := Ground.data }, { on := 5, ground := Ground.data }], guard := none } : Oper)) (v := ?av1707) rfl (by kernel_rfl) (by kernel_rfl) (by kernel_rfl) (fun _ _ _ h => h) (Or.inl ⟨by rfl, ?ay1707⟩) T1706 ?_
  case ay1707 => (intro V hSw; go_simp; try with_reducible rfl)
  try simp only [Act.put, List.setIfInBounds_toArray, List.set_cons_zero, List.set_cons_succ]
  refine wpAnyH_ready (rs := [7]) (by kernel_rfl) (by simp) ?_
  refine (AllReadyH.cons (o := _) rfl (fun K hK => ?_) AllReadyH.nil)
  obtain ⟨p, q, tm⟩ := T1706.res
  have t0 := cells_of tm 0
  have t1 := cells_of tm 1
  have f0 := free_of tm 0
  have f1 := free_of tm 1
  simp only [List.getElem?_toArray, List.getElem?_cons_succ, List.getElem?_cons_zero] at t0 t1
  have tlt := lt_of_block tm
  go_simp
  have T1708 := T1706.set (.slice a1 q1.length d1) (.slice a2 q2.length d2)
  try go_wp2_with fail
  refine hK.out _ _ T1708 (fun hS1708 => ?_)
  clear hK K
  try simp only [Act.put, List.setIfInBounds_toArray, List.set_cons_zero, List.set_cons_succ]
  refine wpAnyH_done (by kernel_rfl) ?_ _
  go_wp2
  have ts := two_set (u := .slice a1 q1.length d1) (v := .slice a2 q2.length d2) tm
  have z0 := cells_of ts 0
  have z1 := cells_of ts 1
  simp only [List.getElem?_toArray, List.getElem?_cons_succ, List.getElem?_cons_zero] at z0 z1
  refine bodyPost_ret (v := .agg #[.slice a1 q1.length d1, .slice a2 q2.length d2]) (by simp [results, results9, go_sem, z0, z1]) rfl ⟨_, _, rfl, ?_, ?_, T1708.below⟩
  · exact own_set_ty (own_set_ty O3.out tm (by decide) 0 _) (heap_set_eq tm (by simp)) (by decide) 1 _
  · exact own_set_ty (own_set_ty O2.out tm (by decide) 0 _) (heap_set_eq tm (by simp)) (by decide) 1 _
end Go.Proofs.Ytgepgbpjdjbelaa
