/-
  WALK of New.
-/
import Derived.Test.YtmgpimibnogcaaaPm
set_option linter.unusedVariables false
set_option linter.unusedSimpArgs false
namespace Go.Proofs.Ytmgpimibnogcaaa
open Go.RowKit

theorem made_ints (n : Nat) : madeCells #[Value.int .i64 0] n = (icells (List.replicate n 0)).toArray := by
  apply Array.toList_inj.1
  rw [toList_madeCells_one]
  simp [icells]
theorem made_blocks (n : Nat) : madeCells #[Value.int .i64 0, Value.int .i64 0, Value.int .i64 0] (n * 3) = (bcells (List.replicate n ⟨0, 0, 0⟩)).toArray := by
  have h1 : ∀ n : Nat, bcells (List.replicate n ⟨0, 0, 0⟩) = List.replicate (n * 3) (Value.int .i64 0) := fun n => by
    refine List.eq_replicate_iff.2 ⟨?_, fun x hx => ?_⟩
    · induction n with
      | zero => rfl
      | succ n ih => rw [List.replicate_succ]; show (_ :: _ :: _ :: bcells (List.replicate n ⟨0, 0, 0⟩)).length = _; simp only [List.length_cons, ih]; omega
    · unfold bcells at hx
      obtain ⟨y, hy, hx⟩ := List.mem_flatMap.1 hx
      obtain ⟨_, rfl⟩ := List.mem_replicate.1 hy
      simp only [List.mem_cons, List.not_mem_nil, or_false] at hx
      rcases hx with rfl | rfl | rfl <;> rfl
  apply Array.toList_inj.1
  rw [h1]
  refine List.eq_replicate_iff.2 ⟨?_, fun x hx => ?_⟩
  · simp [madeCells]
  · unfold madeCells at hx
    rw [Array.mem_toList_iff, Array.mem_map] at hx
    obtain ⟨i, _, rfl⟩ := hx
    have : i % 3 = 0 ∨ i % 3 = 1 ∨ i % 3 = 2 := by omega
    show (#[Value.int .i64 0, Value.int .i64 0, Value.int .i64 0])[i % 3]! = _
    rcases this with h | h | h <;> rw [h] <;> rfl
theorem make_ints (n : Nat) (hn : n ≤ 1048576) (w : World) : (Instr.makeSlice 32 (.int .i64 (n : Int)) (.int .i64 (n : Int))).run Try.prog w = .ok (.slice (some ⟨w.heap.size, 0, none⟩) n n) (w.alloc (.cells (icells (List.replicate n 0)).toArray 3)) := by
  obtain ⟨i0, hi, hz0, hz1, hz2⟩ : ∃ i, Try.prog.info? 3 = some i ∧ i.zero = some (.int .i64 0) ∧ i.size = 1 ∧ i.bytes = 8 := info_parts (by kernel_rfl)
  have := run_make (P := Try.prog) w 32 3 i0 (.int .i64 0) Try.underlying32 hi hz0 .i64 .i64 n n (by omega) (Int.le_refl _) (by rw [hz2]; omega) (by omega)
  rw [this, Int.toNat_natCast, hz1, Nat.mul_one, ← made_ints]
  rfl
theorem make_blocks (n : Nat) (hn : n ≤ 1048576) (w : World) : (Instr.makeSlice 56 (.int .i64 (n : Int)) (.int .i64 (n : Int))).run Try.prog w = .ok (.slice (some ⟨w.heap.size, 0, none⟩) n n) (w.alloc (.cells (bcells (List.replicate n ⟨0, 0, 0⟩)).toArray 62)) := by
  obtain ⟨i0, hi, hz0, hz1, hz2⟩ : ∃ i, Try.prog.info? 62 = some i ∧ i.zero = some (.agg #[.int .i64 0, .int .i64 0, .int .i64 0]) ∧ i.size = 3 ∧ i.bytes = 24 := info_parts (by kernel_rfl)
  have := run_make (P := Try.prog) w 56 62 i0 (.agg #[.int .i64 0, .int .i64 0, .int .i64 0]) Try.underlying56 hi hz0 .i64 .i64 n n (by omega) (Int.le_refl _) (by rw [hz2]; omega) (by omega)
  rw [this, Int.toNat_natCast, hz1, ← made_blocks]
  rfl
def zB (n : Nat) : List Bk := List.replicate n ⟨0, 0, 0⟩
def zF : List Nat := List.replicate 21 0
theorem one_words (n : Nat) (h : 3 ≤ n) : (fillN PZ (List.replicate n 0) 1 (n - 1)).set 1 (2 * ((n - 1 : Nat) : Int)) = words [freeBk (n - 1)] := by
  obtain ⟨m, rfl⟩ : ∃ m, n = m + 2 := ⟨n - 2, by omega⟩
  rw [show m + 2 - 1 = m + 1 by omega]
  have h1 := fillN_mid PZ (List.replicate (m + 1) 0) [0] [] 1 (m + 1) rfl (by simp)
  rw [List.append_nil, List.append_nil, show [(0 : Int)] ++ List.replicate (m + 1) 0 = List.replicate (m + 2) 0 from rfl] at h1
  rw [h1]
  show _ = 0 :: ([freeBk (m + 1)].flatMap Blk.enc)
  rw [List.flatMap_cons, List.flatMap_nil, List.append_nil]
  show _ = 0 :: (freeBk (m + 1)).hd :: (freeBk (m + 1)).body
  rw [freeBk_hd (by omega)]
  rfl
theorem one_ahs (n : Nat) (h : 3 ≤ n) : ((zB n).set 1 ⟨1, 0, 0⟩).map Bk.ah = ahs [freeBk (n - 1)] := by
  obtain ⟨m, rfl⟩ : ∃ m, n = m + 2 := ⟨n - 2, by omega⟩
  show ((zB (m + 2)).set 1 ⟨1, 0, 0⟩).map Bk.ah = 0 :: ((1 :: List.replicate (List.replicate m PZ).length 0) ++ [])
  rw [List.length_replicate, List.append_nil]
  unfold zB
  rw [List.replicate_succ, List.replicate_succ]
  simp
theorem one_mem (q p b n : Nat) (ws : List Int) (w : World) (h : AB q p b ws ((zB n).set 1 ⟨1, 0, 0⟩) zF w) : Mem q p b ws (((zB n).set 1 ⟨1, 0, 0⟩).map Bk.ah) (fun _ => False) w := by
  refine ⟨_, _, h, rfl, ⟨rfl, fun c hc => ⟨.nil, trivial, ?_, List.Pairwise.nil, fun a => ⟨fun h => by simp [Tr.flat] at h, fun h => h.1.elim⟩⟩, fun a x _ hx => ?_⟩, fun a h => h.elim⟩
  · show zF[c]? = some 0
    unfold zF
    rw [List.getElem?_replicate, if_pos hc]
  · have : x ∈ (zB n).set 1 ⟨1, 0, 0⟩ := List.mem_of_getElem? hx
    rcases List.mem_or_eq_of_mem_set this with h | rfl
    · obtain ⟨_, rfl⟩ := List.mem_replicate.1 h
      exact ⟨rfl, rfl⟩
    · exact ⟨rfl, rfl⟩
theorem one_arena {q p b n : Nat} {w : World} (h0 : 16 ≤ n) (h1 : n ≤ 1048576) (h : Mem q p b ((fillN PZ (List.replicate n 0) 1 (n - 1)).set 1 (2 * ((n - 1 : Nat) : Int))) (ahAt (((zB n).set 1 ⟨1, 0, 0⟩).map Bk.ah) (fillN PZ (List.replicate n 0) 1 (n - 1)).length (1 + (n - 1)) (n - 1)) (fun x => False ∨ x = 1) w) : Arena q p b [freeBk (n - 1)] w := by
  have hs : (freeBk (n - 1)).sz = n - 1 := freeBk_sz (by omega)
  have hl : (words [freeBk (n - 1)]).length = n := by rw [words_length, len_cons, hs, len_nil]; omega
  refine ⟨⟨fun c hc => ?_, fun c hc _ => ?_, trivial, by rw [hl]; exact h0, by rw [hl]; exact h1⟩, ?_⟩
  · rw [List.mem_singleton] at hc
    subst hc
    show 1 ≤ (List.replicate (n - 1 - 1) PZ).length
    rw [List.length_replicate]
    omega
  · rw [List.mem_singleton] at hc
    subst hc
    show List.replicate (n - 1 - 1) PZ = List.replicate (List.replicate (n - 1 - 1) PZ).length PZ
    rw [List.length_replicate]
  · have e1 : (fun x => False ∨ x = 1) = FreeAt [freeBk (n - 1)] := by
      funext x
      apply propext
      rw [freeAt_cons]
      constructor
      · rintro (h | rfl)
        · exact h.elim
        · exact .inl ⟨rfl, rfl⟩
      · rintro (⟨h, _⟩ | ⟨y, _, h⟩)
        · exact .inr h
        · exact (freeAt_nil h).elim
    have e2 : ahAt (((zB n).set 1 ⟨1, 0, 0⟩).map Bk.ah) (fillN PZ (List.replicate n 0) 1 (n - 1)).length (1 + (n - 1)) (n - 1) = ahs [freeBk (n - 1)] := by
      unfold ahAt
      rw [fillN_len, List.length_replicate, if_neg (by omega), one_ahs n (by omega)]
    rw [one_words n (by omega), e1, e2] at h
    exact h
theorem new_box (q p b n : Nat) (w : World) (h0 : 16 ≤ n) (h1 : n ≤ 1048576) (hq : w.heap[q]? = some (.cells #[.slice (some ⟨p, 0, none⟩) n n, .slice (some ⟨b, 0, none⟩) n n, .int .i64 0, .int .i64 0, .int .i64 0, .int .i64 0, .int .i64 0, .int .i64 0, .int .i64 0, .int .i64 0, .int .i64 0, .int .i64 0, .int .i64 0, .int .i64 0, .int .i64 0, .int .i64 0, .int .i64 0, .int .i64 0, .int .i64 0, .int .i64 0, .int .i64 0, .int .i64 0, .int .i64 0] 59 (0, 0)))
    (hp : w.heap[p]? = some (.cells (icells (List.replicate n 0)).toArray 3 (0, 0))) (hb : w.heap[b]? = some (.cells (bcells (zB n)).toArray 62 (0, 0))) (hne : q ≠ p ∧ q ≠ b ∧ p ≠ b) : AB q p b (List.replicate n 0) (zB n) zF w := by
  refine ⟨?_, hp, hb, ?_, by rw [List.length_replicate]; exact h0, by rw [List.length_replicate]; exact h1, hne⟩
  · rw [List.length_replicate]
    exact hq
  · unfold zB
    rw [List.length_replicate, List.length_replicate]
set_option maxRecDepth 1000000 in
set_option maxHeartbeats 3200000 in
theorem new_any (n : Nat) (w : World) (h0 : 16 ≤ n) (h1 : n ≤ 1048576) :
    Calls Try.prog 10 #[.int .i64 (n : Int)] w fun e w' => ∃ q p b, e = .returned (.tuple #[.pointer (some ⟨q, 0, none⟩), .int .i64 0]) ∧ Arena q p b [freeBk (n - 1)] w' ∧ (w.heap.size ≤ q ∧ w.heap.size ≤ p ∧ w.heap.size ≤ b) ∧ Below w.heap.size w w' := by
  have h0i : ¬ (n : Int) < 16 := by omega
  have h1i : ¬ (1048576 : Int) < (n : Int) := by omega
  have q1 : 1 ≤ n := by omega
  have q2 : (1 : Int) ≤ (n : Int) := by omega
  have q3 : ((n : Int) - 1).toNat = n - 1 := by omega
  have q4 : IntKind.i64.wrap ((n : Int) - 1) = ((n - 1 : Nat) : Int) := by rw [IntWalk.i64_in _ (by omega)]; omega
  have q5 : ¬ n - 1 = 0 := by omega
  have q6 : (1 : Int) < (n : Int) := by omega
  have HN := Lib.hid (And.intro h0 h1)
  have m1 := make_ints n h1
  have m2 := make_blocks n h1
  go_enter Try.func10, Try.ntmps10
  go_wp2
  go_region_with fail
  · have AB0 : AB (w.heap.size + 1 + 1) w.heap.size (w.heap.size + 1) (List.replicate n 0) (zB n) zF (((w.alloc (Obj.cells (icells (List.replicate n 0)).toArray 3)).alloc (Obj.cells (bcells (List.replicate n { ah := 0, lf := 0, rt := 0 })).toArray 62)).alloc (Obj.cells #[.slice (some { block := w.heap.size, off := 0 }) n n, .slice (some { block := (w.heap.size + 1), off := 0 }) n n, Value.int IntKind.i64 0, Value.int IntKind.i64 0, Value.int IntKind.i64 0, Value.int IntKind.i64 0, Value.int IntKind.i64 0, Value.int IntKind.i64 0, Value.int IntKind.i64 0, Value.int IntKind.i64 0, Value.int IntKind.i64 0, Value.int IntKind.i64 0, Value.int IntKind.i64 0, Value.int IntKind.i64 0, Value.int IntKind.i64 0, Value.int IntKind.i64 0, Value.int IntKind.i64 0, Value.int IntKind.i64 0, Value.int IntKind.i64 0, Value.int IntKind.i64 0, Value.int IntKind.i64 0, Value.int IntKind.i64 0, Value.int IntKind.i64 0] 59)).drew := by
      refine new_box _ _ _ n _ HN.out.1 HN.out.2 ?_ ?_ ?_ ⟨by omega, by omega, by omega⟩
      · have := heap_new ((w.alloc (Obj.cells (icells (List.replicate n 0)).toArray 3)).alloc (Obj.cells (bcells (List.replicate n { ah := 0, lf := 0, rt := 0 })).toArray 62)) (Obj.cells #[.slice (some { block := w.heap.size, off := 0 }) n n, .slice (some { block := (w.heap.size + 1), off := 0 }) n n, Value.int IntKind.i64 0, Value.int IntKind.i64 0, Value.int IntKind.i64 0, Value.int IntKind.i64 0, Value.int IntKind.i64 0, Value.int IntKind.i64 0, Value.int IntKind.i64 0, Value.int IntKind.i64 0, Value.int IntKind.i64 0, Value.int IntKind.i64 0, Value.int IntKind.i64 0, Value.int IntKind.i64 0, Value.int IntKind.i64 0, Value.int IntKind.i64 0, Value.int IntKind.i64 0, Value.int IntKind.i64 0, Value.int IntKind.i64 0, Value.int IntKind.i64 0, Value.int IntKind.i64 0, Value.int IntKind.i64 0, Value.int IntKind.i64 0] 59)
        rw [show ((w.alloc (Obj.cells (icells (List.replicate n 0)).toArray 3)).alloc (Obj.cells (bcells (List.replicate n { ah := 0, lf := 0, rt := 0 })).toArray 62)).heap.size = w.heap.size + 1 + 1 by simp] at this
        exact this
      · exact heap_alloc_lt (heap_alloc_lt (heap_new w _))
      · have := heap_new (w.alloc (Obj.cells (icells (List.replicate n 0)).toArray 3)) (Obj.cells (bcells (List.replicate n { ah := 0, lf := 0, rt := 0 })).toArray 62)
        rw [show (w.alloc (Obj.cells (icells (List.replicate n 0)).toArray 3)).heap.size = w.heap.size + 1 by simp] at this
        exact heap_alloc_lt this
    have B0 : Below w.heap.size w ((((w.alloc (Obj.cells (icells (List.replicate n 0)).toArray 3)).alloc (Obj.cells (bcells (List.replicate n { ah := 0, lf := 0, rt := 0 })).toArray 62)).alloc (Obj.cells #[.slice (some { block := w.heap.size, off := 0 }) n n, .slice (some { block := (w.heap.size + 1), off := 0 }) n n, Value.int IntKind.i64 0, Value.int IntKind.i64 0, Value.int IntKind.i64 0, Value.int IntKind.i64 0, Value.int IntKind.i64 0, Value.int IntKind.i64 0, Value.int IntKind.i64 0, Value.int IntKind.i64 0, Value.int IntKind.i64 0, Value.int IntKind.i64 0, Value.int IntKind.i64 0, Value.int IntKind.i64 0, Value.int IntKind.i64 0, Value.int IntKind.i64 0, Value.int IntKind.i64 0, Value.int IntKind.i64 0, Value.int IntKind.i64 0, Value.int IntKind.i64 0, Value.int IntKind.i64 0, Value.int IntKind.i64 0, Value.int IntKind.i64 0] 59)).drew) := ((((Below.refl _ _).alloc (Nat.le_refl _) _).alloc (by simp) _).alloc (by simp; omega) _).drew
    have QQ := Lib.hid (show w.heap.size ≤ w.heap.size + 1 + 1 ∧ w.heap.size ≤ w.heap.size ∧ w.heap.size ≤ (w.heap.size + 1) from ⟨by omega, by omega, by omega⟩)
    clear m1 m2
    generalize (((w.alloc (Obj.cells (icells (List.replicate n 0)).toArray 3)).alloc (Obj.cells (bcells (List.replicate n { ah := 0, lf := 0, rt := 0 })).toArray 62)).alloc (Obj.cells #[.slice (some { block := w.heap.size, off := 0 }) n n, .slice (some { block := (w.heap.size + 1), off := 0 }) n n, Value.int IntKind.i64 0, Value.int IntKind.i64 0, Value.int IntKind.i64 0, Value.int IntKind.i64 0, Value.int IntKind.i64 0, Value.int IntKind.i64 0, Value.int IntKind.i64 0, Value.int IntKind.i64 0, Value.int IntKind.i64 0, Value.int IntKind.i64 0, Value.int IntKind.i64 0, Value.int IntKind.i64 0, Value.int IntKind.i64 0, Value.int IntKind.i64 0, Value.int IntKind.i64 0, Value.int IntKind.i64 0, Value.int IntKind.i64 0, Value.int IntKind.i64 0, Value.int IntKind.i64 0, Value.int IntKind.i64 0, Value.int IntKind.i64 0] 59)).drew = w1 at *
    have AB1 := Lib.hid AB0
    have B1 := Lib.hid B0
    have HPO := Lib.hid (poison_any (o := 1) (m := n - 1) (cap := n - 1) AB0 (by rw [List.length_replicate]; omega))
    have c0 := AB0.box0
    rw [List.length_replicate] at c0
    obtain ⟨l1, l2, l3⟩ := AB0.lt
    clear AB0 B0
    go_wp2_with fail
    refine HPO.out.mono ?_
    rintro e w2 ⟨rfl, hab, hu⟩
    have AB2 := Lib.hid hab
    have B2 := Lib.hid (B1.out.trans (hu.below (B := w.heap.size) (fun x hx => by rw [List.mem_singleton] at hx; have := QQ.out; omega) (by have := B1.out.size; exact this)))
    have hx : (zB n)[1]? = some ⟨0, 0, 0⟩ := by
      unfold zB
      rw [List.getElem?_replicate, if_pos (by omega)]
    have c1 := hab.box1
    rw [fillN_len, List.length_replicate] at c1
    have f1 := (hab.frozen 3).2.2
    have k1 := (hab.bk3 hx).1
    obtain ⟨m1, m2, m3⟩ := hab.lt
    have AB3 := Lib.hid (hab.set_ah3 hx 1)
    have B3 := Lib.hid (show Below w.heap.size w (w2.setCell { block := (w.heap.size + 1), off := 1 * 3 } (Value.int IntKind.i64 ((1 : Nat) : Int))) from B2.out.setCell (by have := QQ.out; show w.heap.size ≤ (w.heap.size + 1); omega) _)
    clear hab hu hx c0 l1 l2 l3
    go_wp2_with fail
    refine (release_any _ _ _ _ _ _ _ (one_mem _ _ _ _ _ _ AB3.out) 1 (n - 1) (fun h => h) (by decide) (by rw [fillN_len, List.length_replicate]; omega) (by have := HN.out; omega)).mono ?_
    rintro e w4 ⟨rfl, hm, hu⟩
    have A4 := Lib.hid (one_arena HN.out.1 HN.out.2 hm)
    have B4 := Lib.hid (B3.out.trans (hu.below (B := w.heap.size) (fun x hx => by simp only [List.mem_cons, List.not_mem_nil, or_false] at hx; have := QQ.out; omega) B3.out.size))
    clear hm hu c1 f1 k1 m1 m2 m3
    go_wp2
    go_ret2
    exact ⟨_, _, _, rfl, A4.out, QQ.out, B4.out⟩
  · have AB0 : AB (w.heap.size + 1 + 1) (w.heap.size + 1) w.heap.size (List.replicate n 0) (zB n) zF (((w.alloc (Obj.cells (bcells (List.replicate n { ah := 0, lf := 0, rt := 0 })).toArray 62)).alloc (Obj.cells (icells (List.replicate n 0)).toArray 3)).alloc (Obj.cells #[.slice (some { block := (w.heap.size + 1), off := 0 }) n n, .slice (some { block := w.heap.size, off := 0 }) n n, Value.int IntKind.i64 0, Value.int IntKind.i64 0, Value.int IntKind.i64 0, Value.int IntKind.i64 0, Value.int IntKind.i64 0, Value.int IntKind.i64 0, Value.int IntKind.i64 0, Value.int IntKind.i64 0, Value.int IntKind.i64 0, Value.int IntKind.i64 0, Value.int IntKind.i64 0, Value.int IntKind.i64 0, Value.int IntKind.i64 0, Value.int IntKind.i64 0, Value.int IntKind.i64 0, Value.int IntKind.i64 0, Value.int IntKind.i64 0, Value.int IntKind.i64 0, Value.int IntKind.i64 0, Value.int IntKind.i64 0, Value.int IntKind.i64 0] 59)).drew := by
      refine new_box _ _ _ n _ HN.out.1 HN.out.2 ?_ ?_ ?_ ⟨by omega, by omega, by omega⟩
      · have := heap_new ((w.alloc (Obj.cells (bcells (List.replicate n { ah := 0, lf := 0, rt := 0 })).toArray 62)).alloc (Obj.cells (icells (List.replicate n 0)).toArray 3)) (Obj.cells #[.slice (some { block := (w.heap.size + 1), off := 0 }) n n, .slice (some { block := w.heap.size, off := 0 }) n n, Value.int IntKind.i64 0, Value.int IntKind.i64 0, Value.int IntKind.i64 0, Value.int IntKind.i64 0, Value.int IntKind.i64 0, Value.int IntKind.i64 0, Value.int IntKind.i64 0, Value.int IntKind.i64 0, Value.int IntKind.i64 0, Value.int IntKind.i64 0, Value.int IntKind.i64 0, Value.int IntKind.i64 0, Value.int IntKind.i64 0, Value.int IntKind.i64 0, Value.int IntKind.i64 0, Value.int IntKind.i64 0, Value.int IntKind.i64 0, Value.int IntKind.i64 0, Value.int IntKind.i64 0, Value.int IntKind.i64 0, Value.int IntKind.i64 0] 59)
        rw [show ((w.alloc (Obj.cells (bcells (List.replicate n { ah := 0, lf := 0, rt := 0 })).toArray 62)).alloc (Obj.cells (icells (List.replicate n 0)).toArray 3)).heap.size = w.heap.size + 1 + 1 by simp] at this
        exact this
      · have := heap_new (w.alloc (Obj.cells (bcells (List.replicate n { ah := 0, lf := 0, rt := 0 })).toArray 62)) (Obj.cells (icells (List.replicate n 0)).toArray 3)
        rw [show (w.alloc (Obj.cells (bcells (List.replicate n { ah := 0, lf := 0, rt := 0 })).toArray 62)).heap.size = w.heap.size + 1 by simp] at this
        exact heap_alloc_lt this
      · exact heap_alloc_lt (heap_alloc_lt (heap_new w _))
    have B0 : Below w.heap.size w ((((w.alloc (Obj.cells (bcells (List.replicate n { ah := 0, lf := 0, rt := 0 })).toArray 62)).alloc (Obj.cells (icells (List.replicate n 0)).toArray 3)).alloc (Obj.cells #[.slice (some { block := (w.heap.size + 1), off := 0 }) n n, .slice (some { block := w.heap.size, off := 0 }) n n, Value.int IntKind.i64 0, Value.int IntKind.i64 0, Value.int IntKind.i64 0, Value.int IntKind.i64 0, Value.int IntKind.i64 0, Value.int IntKind.i64 0, Value.int IntKind.i64 0, Value.int IntKind.i64 0, Value.int IntKind.i64 0, Value.int IntKind.i64 0, Value.int IntKind.i64 0, Value.int IntKind.i64 0, Value.int IntKind.i64 0, Value.int IntKind.i64 0, Value.int IntKind.i64 0, Value.int IntKind.i64 0, Value.int IntKind.i64 0, Value.int IntKind.i64 0, Value.int IntKind.i64 0, Value.int IntKind.i64 0, Value.int IntKind.i64 0] 59)).drew) := ((((Below.refl _ _).alloc (Nat.le_refl _) _).alloc (by simp) _).alloc (by simp; omega) _).drew
    have QQ := Lib.hid (show w.heap.size ≤ w.heap.size + 1 + 1 ∧ w.heap.size ≤ (w.heap.size + 1) ∧ w.heap.size ≤ w.heap.size from ⟨by omega, by omega, by omega⟩)
    clear m1 m2
    generalize (((w.alloc (Obj.cells (bcells (List.replicate n { ah := 0, lf := 0, rt := 0 })).toArray 62)).alloc (Obj.cells (icells (List.replicate n 0)).toArray 3)).alloc (Obj.cells #[.slice (some { block := (w.heap.size + 1), off := 0 }) n n, .slice (some { block := w.heap.size, off := 0 }) n n, Value.int IntKind.i64 0, Value.int IntKind.i64 0, Value.int IntKind.i64 0, Value.int IntKind.i64 0, Value.int IntKind.i64 0, Value.int IntKind.i64 0, Value.int IntKind.i64 0, Value.int IntKind.i64 0, Value.int IntKind.i64 0, Value.int IntKind.i64 0, Value.int IntKind.i64 0, Value.int IntKind.i64 0, Value.int IntKind.i64 0, Value.int IntKind.i64 0, Value.int IntKind.i64 0, Value.int IntKind.i64 0, Value.int IntKind.i64 0, Value.int IntKind.i64 0, Value.int IntKind.i64 0, Value.int IntKind.i64 0, Value.int IntKind.i64 0] 59)).drew = w1 at *
    have AB1 := Lib.hid AB0
    have B1 := Lib.hid B0
    have HPO := Lib.hid (poison_any (o := 1) (m := n - 1) (cap := n - 1) AB0 (by rw [List.length_replicate]; omega))
    have c0 := AB0.box0
    rw [List.length_replicate] at c0
    obtain ⟨l1, l2, l3⟩ := AB0.lt
    clear AB0 B0
    go_wp2_with fail
    refine HPO.out.mono ?_
    rintro e w2 ⟨rfl, hab, hu⟩
    have AB2 := Lib.hid hab
    have B2 := Lib.hid (B1.out.trans (hu.below (B := w.heap.size) (fun x hx => by rw [List.mem_singleton] at hx; have := QQ.out; omega) (by have := B1.out.size; exact this)))
    have hx : (zB n)[1]? = some ⟨0, 0, 0⟩ := by
      unfold zB
      rw [List.getElem?_replicate, if_pos (by omega)]
    have c1 := hab.box1
    rw [fillN_len, List.length_replicate] at c1
    have f1 := (hab.frozen 3).2.2
    have k1 := (hab.bk3 hx).1
    obtain ⟨m1, m2, m3⟩ := hab.lt
    have AB3 := Lib.hid (hab.set_ah3 hx 1)
    have B3 := Lib.hid (show Below w.heap.size w (w2.setCell { block := w.heap.size, off := 1 * 3 } (Value.int IntKind.i64 ((1 : Nat) : Int))) from B2.out.setCell (by have := QQ.out; show w.heap.size ≤ w.heap.size; omega) _)
    clear hab hu hx c0 l1 l2 l3
    go_wp2_with fail
    refine (release_any _ _ _ _ _ _ _ (one_mem _ _ _ _ _ _ AB3.out) 1 (n - 1) (fun h => h) (by decide) (by rw [fillN_len, List.length_replicate]; omega) (by have := HN.out; omega)).mono ?_
    rintro e w4 ⟨rfl, hm, hu⟩
    have A4 := Lib.hid (one_arena HN.out.1 HN.out.2 hm)
    have B4 := Lib.hid (B3.out.trans (hu.below (B := w.heap.size) (fun x hx => by simp only [List.mem_cons, List.not_mem_nil, or_false] at hx; have := QQ.out; omega) B3.out.size))
    clear hm hu c1 f1 k1 m1 m2 m3
    go_wp2
    go_ret2
    exact ⟨_, _, _, rfl, A4.out, QQ.out, B4.out⟩
end Go.Proofs.Ytmgpimibnogcaaa
