/-
  WALKS: the map of places (placesOf, index), Starts, Back, Ends.
-/
import Derived.Test.YtbeelcklbdnjnaaK13
import Derived.Test.YtbeelcklbdnjnaaFp
import Derived.Maps.OwnSet
set_option linter.unusedVariables false
set_option linter.unusedSimpArgs false
namespace Go.Proofs.Ytbeelcklbdnjnaa
open Go.RowKit Go.Maps

theorem law3 : Keyed Try.prog 3 := int_keyed Try.underlying3
theorem und53 : Try.prog.underlying 53 = some (.map 3 3) := by kernel_rfl
theorem zero3 (w : World) : (zeroValue 3).run Try.prog w = .ok (.int .i64 0) w := by kernel_rfl
theorem run_makeMap_int (t : TypeId) (n : Nat) (w : World) (ht : Try.prog.underlying t = some (.map 3 3)) : (Instr.makeMap t (some (.int .i64 (n : Int)))).run Try.prog w = .ok (.map (some w.heap.size)) (w.alloc (.map #[] 0)) := by
  simp [Instr.makeMap, run_underlying ht, asInt, asIntOf, Result.andThen]
/-- The datum D tells the places of the instructions l. -/
def PD (D : DataW Unit) (l : List In) : Prop := ∀ pc : Int, Maps.has D (.int .i64 pc) = decide (0 ≤ idxP l pc) ∧ (0 ≤ idxP l pc → D.atKey (.int .i64 pc) (.lit (.int .i64 0)) = .lit (.int .i64 (idxP l pc)))
theorem PD.nil : PD (.map []) [] := fun pc => ⟨by simp [Maps.has, idxP], fun h => absurd h (by unfold idxP; simp)⟩
theorem idx_snoc {n : Nat} {l : List In} (ho : Ord n l) {k : Nat} {x : In} (hx : l[k]? = some x) (pc : Int) : idxP (l.take (k + 1)) pc = if x.pc = pc then (k : Int) else idxP (l.take k) pc := by
  have hk : k < l.length := (List.getElem?_eq_some_iff.1 hx).1
  split
  · rename_i e
    refine idx_stepP (x := x) ?_ (fun j y hj hy e2 => ?_) e
    · rw [List.getElem?_take_of_lt (by omega)]; exact hx
    · rw [List.getElem?_take_of_lt (by omega)] at hy
      have := ho.lt j k y x hj hy hx
      omega
  · rename_i e
    rcases idx_or (l.take k) pc with h | h
    · obtain ⟨i, y, hy, hp, e2⟩ := idx_found h
      have hi : i < k := by have := (List.getElem?_eq_some_iff.1 hy).1; rw [List.length_take] at this; omega
      rw [List.getElem?_take_of_lt hi] at hy
      rw [e2]
      refine idx_stepP (x := y) ?_ (fun j z hj hz e3 => ?_) hp
      · rw [List.getElem?_take_of_lt (by omega)]; exact hy
      · rw [List.getElem?_take_of_lt (by omega)] at hz
        have := ho.lt j i z y hj hz hy
        omega
    · rw [h]
      rcases idx_or (l.take (k + 1)) pc with h2 | h2
      · exfalso
        obtain ⟨i, y, hy, hp, e2⟩ := idx_found h2
        have hi : i < k + 1 := by have := (List.getElem?_eq_some_iff.1 hy).1; rw [List.length_take] at this; omega
        rw [List.getElem?_take_of_lt hi] at hy
        have hik : i < k := by
          rcases Nat.lt_or_eq_of_le (Nat.le_of_lt_succ hi) with h | rfl
          · exact h
          · rw [hx] at hy; cases hy; exact absurd hp e
        refine idx_not (l := l.take k) (pc := pc) (by rw [h]; decide) i y ?_ hp
        rw [List.getElem?_take_of_lt hik]; exact hy
      · exact h2
theorem PD.snoc {n : Nat} {l : List In} (ho : Ord n l) {k : Nat} {x : In} {D : DataW Unit} (h : PD D (l.take k)) (hm : IsMap D) (hx : l[k]? = some x) : PD (D.put (.int .i64 x.pc) (.lit (.int .i64 (k : Int)))) (l.take (k + 1)) := fun pc => by
  rw [idx_snoc ho hx]
  by_cases e : x.pc = pc
  · subst e
    rw [if_pos rfl]
    refine ⟨?_, fun _ => atKey_put_same hm (show WideAt.IsKeyLit (.int .i64 x.pc) from trivial) _ _⟩
    rw [has_put_same hm (show WideAt.IsKeyLit (.int .i64 x.pc) from trivial)]
    simp
  · rw [if_neg e]
    have hne : (Lit.int .i64 pc) ≠ (Lit.int .i64 x.pc) := by intro h; injection h with _ h; exact e h.symm
    rw [has_put_other hne, atKey_put_other hne]
    exact h pc
def PMapN (mb k : Nat) (l : List In) (w : World) : Prop := ∃ D, w.ownsMap Try.prog 3 (plainElem Try.prog 3) mb k D ∧ PD D (l.take k)
/-- Block mb is the map of the places of the instructions l. -/
def PMap (mb : Nat) (l : List In) (w : World) : Prop := PMapN mb l.length l w
theorem PMapN.lt {mb k : Nat} {l : List In} {w : World} (h : PMapN mb k l w) : mb < w.heap.size := by
  obtain ⟨D, h, _⟩ := h
  exact h.lt
theorem PMapN.stay {mb k : Nat} {l : List In} {w w' : World} (h : PMapN mb k l w) (hk : w'.heap[mb]? = w.heap[mb]?) : PMapN mb k l w' := by
  obtain ⟨D, ⟨es, clock, hb, F, hs, hD⟩, hp⟩ := h
  exact ⟨D, ⟨es, clock, hk.trans hb, F, hs, hD⟩, hp⟩
theorem PMapN.below {mb k B : Nat} {l : List In} {w w' : World} (h : PMapN mb k l w) (hb : Below B w w') (hB : mb < B) : PMapN mb k l w' := h.stay (hb.block mb hB)
theorem PMapN.alloc {mb k : Nat} {l : List In} {w : World} (h : PMapN mb k l w) (o : Obj) : PMapN mb k l (w.alloc o) := h.stay (Below.heap_alloc _ _ _ h.lt)
theorem wf_i64 {a : Int} (h1 : -9223372036854775808 ≤ a) (h2 : a ≤ 9223372036854775807) : (Lit.int .i64 a).wf = true := by
  simp [Lit.wf, IntKind.min, IntKind.max, IntKind.bits, IntKind.signed]
  omega
set_option maxRecDepth 1000000 in
set_option maxHeartbeats 1600000 in
theorem places_any (B n : Nat) (l : List In) (v : Value) (w : World) (hr : NRow B w v l) (hB : B ≤ w.heap.size) (ho : Ord n l) (hn : n ≤ 1000000) :
    Calls Try.prog 26 #[v] w fun e w' => ∃ mb, e = .returned (.map (some mb)) ∧ w.heap.size ≤ mb ∧ PMap mb l w' ∧ Below w.heap.size w w' := by
  obtain ⟨A, c, rfl, hc, hm⟩ := hr.form
  have HR := Lib.hid hr
  have HO := Lib.hid ho
  unfold maxLen at hm
  have hmm := fun W => run_makeMap_int 53 l.length W und53
  clear hr ho
  go_enter Try.func26, Try.ntmps26
  go_wp2
  clear hmm
  go_loopw [11] (fun i wr => ∃ k : Nat, k ≤ l.length ∧ i = .int .i64 k ∧ PMapN w.heap.size k l wr ∧ Below w.heap.size w wr) (fun i _ => l.length - (intOf i).toNat)
  case atStart => exact ⟨0, Nat.zero_le _, rfl, ⟨_, World.ownsMap_made _ _ _ _, PD.nil⟩, (Below.refl _ _).alloc (Nat.le_refl _) _⟩
  case round =>
    obtain ⟨k, hk, rfl, hp, hb⟩ := hrel
    have HP := Lib.hid hp
    have HBE := Lib.hid hb
    have hsz := hb.size
    clear hp hb
    by_cases hlt : k < l.length
    · have hx := List.getElem?_eq_getElem hlt
      generalize l[k] = x at hx
      obtain ⟨b, o, Ak, ck, At, ct, rfl, hbB, _, _, c0, c1, c2, c3, c4⟩ := (HR.out.below HBE.out hB).at_ hx
      have HX := Lib.hid hx
      have h0 := HO.out.lo x (List.mem_of_getElem? hx)
      have h1 := HO.out.hi x (List.mem_of_getElem? hx)
      have hkey : keyOf Try.prog 3 (.int .i64 x.pc) = some (.int .i64 x.pc) := keyOf_int_mk Try.underlying3 (wf_i64 (by omega) (by omega))
      have hval : plainElem (H := Unit) Try.prog 3 (.int .i64 (k : Int)) = some (.lit (.int .i64 k), []) := plainElem_int Try.underlying3 (wf_i64 (by omega) (by omega))
      obtain ⟨D, hown, hpd⟩ := HP.out
      have HPD := Lib.hid hpd
      clear hx hpd h0 h1
      go_wp2_with (first
        | (at_mapUpdate; refine wpList_mapUpdate_own _ rfl _ _ _ 53 rfl 3 3 law3 und53 (plainElem (H := Unit) Try.prog 3) w.heap.size k _ rfl (hown.alloc _) (by unfold maxLen; omega) _ _ _ rfl rfl hkey _ [] hval ?_; intro w1 hown1 hgrow1)
        | go_in)
      go_roundw
      case rel =>
        refine ⟨k + 1, by omega, by go_num, ⟨_, hown1, PD.snoc HO.out HPD.out (hown.isMap) HX.out⟩, ?_⟩
        exact (HBE.out.alloc hsz _).grown hgrow1 (by simp; omega) (fun j hj => by cases hj; exact Nat.le_refl _)
      case measure => simp [intOf]; omega
    · obtain rfl : k = l.length := by omega
      go_wp2
      go_ret
      exact ⟨_, rfl, Nat.le_refl _, HP.out, HBE.out⟩
set_option maxRecDepth 1000000 in
theorem index_any (mb : Nat) (l : List In) (pc : Int) (w : World) (hp : PMap mb l w) (h1 : -9223372036854775808 ≤ pc) (h2 : pc ≤ 9223372036854775807) :
    Calls Try.prog 29 #[.map (some mb), .int .i64 pc] w fun e w' => e = .returned (.int .i64 (idxP l pc)) ∧ w' = w := by
  obtain ⟨D, hown, hpd⟩ := hp
  rw [List.take_length] at hpd
  have hkey : keyOf Try.prog 3 (.int .i64 pc) = some (.int .i64 pc) := keyOf_int_mk Try.underlying3 (wf_i64 h1 h2)
  obtain ⟨ha, hb⟩ := hpd pc
  by_cases h : 0 ≤ idxP l pc
  · have e1 := hb h
    rw [decide_eq_true h] at ha
    obtain ⟨z, hz⟩ : ∃ z, idxP l pc = z := ⟨_, rfl⟩
    rw [hz] at e1 ⊢
    clear hb h hz
    go_enter Try.func29, Try.ntmps29
    go_wp2_with (first
      | (at_lookup; refine wpList_lookup_own_ok_int _ rfl _ _ 53 rfl 3 3 .i64 law3 und53 Try.underlying3 (zero3 _) mb l.length D rfl hown _ _ rfl hkey ?_; intro c hat hwc; rw [ha]; rw [e1] at hat; obtain rfl : c = z := by injection hat with h; injection h with _ h; exact h.symm)
      | go_in)
    go_ret
    exact ⟨rfl, rfl⟩
  · have e1 : idxP l pc = -1 := (idx_or l pc).resolve_left h
    rw [decide_eq_false h] at ha
    rw [e1]
    clear hb h e1
    go_enter Try.func29, Try.ntmps29
    go_wp2_with (first
      | (at_lookup; refine wpList_lookup_own_ok_int _ rfl _ _ 53 rfl 3 3 .i64 law3 und53 Try.underlying3 (zero3 _) mb l.length D rfl hown _ _ rfl hkey ?_; intro c hat hwc; rw [ha])
      | go_in)
    go_ret
    exact ⟨rfl, rfl⟩
end Go.Proofs.Ytbeelcklbdnjnaa
