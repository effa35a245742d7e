/-
  PRUNED by wip/tools/prunem.py: what these texts need of an earlier stage's.
-/
import Derived.Test.YtcgloepfnnfioaaD4
set_option linter.unusedVariables false
set_option linter.unusedSimpArgs false
namespace Go.Proofs.Ytcgloepfnnfioaa
open Go.RowKit

theorem pieceL_end {l : List UInt8} : (pieceL l).1 = 1 ↔ l = [] := by
  cases l with
  | nil => exact ⟨fun _ => rfl, fun _ => rfl⟩
  | cons c t =>
    refine ⟨fun h => ?_, fun h => by simp at h⟩
    cases hf : firstL (c :: t) with
    | some p => rw [pieceL_type hf] at h; simp at h
    | none =>
      rw [pieceL_cons, hf] at h
      simp only at h
      repeat' split at h
      all_goals simp at h
/-- What 'Field' answers. -/
def fdV : Option Ty → Value
  | none => .tuple #[.agg #[.int .i64 0, .string ⟨#[]⟩], .int .i64 9]
  | some p => .tuple #[.agg #[.int .i64 p.1, .string (mkB p.2)], .int .i64 0]
theorem heap_new (w : World) (o : Obj) : (w.alloc o).heap[w.heap.size]? = some o := by
  show (w.heap.push o)[w.heap.size]? = _
  simp
theorem heap_new2 (w : World) (o1 o2 : Obj) : ((w.alloc o1).alloc o2).heap[w.heap.size + 1]? = some o2 := by
  have := heap_new (w.alloc o1) o2
  rwa [show (w.alloc o1).heap.size = w.heap.size + 1 by simp] at this
theorem butcell {b : Nat} {W w1 : World} (h : But b W w1) : (∀ q o, q < W.heap.size → q ≠ b → w1.cell? ⟨q, o, none⟩ = W.cell? ⟨q, o, none⟩) ∧ (∀ q o, q < W.heap.size → q ≠ b → w1.frozen? ⟨q, o, none⟩ = W.frozen? ⟨q, o, none⟩) :=
  ⟨fun q o hq hb => h.cell (p := ⟨q, o, none⟩) hq hb, fun q o hq hb => h.frozen (p := ⟨q, o, none⟩) hq hb⟩
theorem cells_of {w : World} {b : Nat} {cs : Array Value} {t : TypeId} (h : w.heap[b]? = some (.cells cs t (0, 0))) (i : Nat) : w.cell? ⟨b, i, none⟩ = cs[i]? := by simp [World.cell?, h]
theorem free_of {w : World} {b : Nat} {cs : Array Value} {t : TypeId} (h : w.heap[b]? = some (.cells cs t (0, 0))) (i : Nat) : w.frozen? ⟨b, i, none⟩ = false := by simp [World.frozen?, h]
theorem But.keep {b q : Nat} {w w' : World} {o : Obj} (h : But b w w') (hq : q ≠ b) (hx : w.heap[q]? = some o) : w'.heap[q]? = some o := (h.block q (lt_of_block hx) hq).trans hx
theorem Below.keep {B q : Nat} {w w' : World} {o : Obj} (h : Below B w w') (hq : q < B) (hx : w.heap[q]? = some o) : w'.heap[q]? = some o := (h.block q hq).trans hx
theorem run_kind (a b c : Value) (W : World) : (Instr.field 124 (.agg #[a, b, c]) 0).run Try.prog W = .ok a W := by
  simp [Instr.field, go_sem]; rfl
theorem next_new {k : Nat} {p : Ty} {n b : Nat} (r r' : ByteArray) (w : World) (hx : pieceL (L r) = (k, p, n)) (hr : r.extract n r.size = r') (hs : r.size ≤ 9223372036854775807) (h : w.heap[b]? = some (.cells #[.string r] 9 (0, 0))) :
    Calls Try.prog 117 #[.pointer (some ⟨b, 0, none⟩)] w fun e w' => e = .returned (.agg #[.int .i64 k, .int .i64 p.1, .string (mkB p.2)]) ∧ w'.heap[b]? = some (.cells #[.string r'] 9 (0, 0)) ∧ But b w w' := by
  have := nextP_any b r w h hs
  rw [hx] at this
  simp only at this
  rw [hr] at this
  exact this
set_option maxRecDepth 1000000 in
set_option maxHeartbeats 1600000 in
theorem Field_any (s : ByteArray) (w : World) (hs : s.size ≤ 9223372036854775807) :
    Calls Try.prog 105 #[.string s] w fun e w' => e = .returned (fdV (fieldL (L s))) ∧ Below w.heap.size w w' := by
  obtain ⟨⟨k, p, n⟩, hx⟩ : ∃ x, pieceL (L s) = x := ⟨_, rfl⟩
  obtain ⟨r, hr⟩ : ∃ r, s.extract n s.size = r := ⟨_, rfl⟩
  have HN1 := fun W b => Lib.hid (next_new (b := b) s r W hx hr hs)
  cases hf : firstL (L s) with
  | none =>
    have hk := (pieceL_none hf).1
    rw [hx] at hk
    simp only at hk
    have hk1 : (((k : Nat) : Int) == 5) = false := by rw [beq_eq_false_iff_ne]; omega
    have hk2 : (((k : Nat) : Int) != 5) = true := by rw [bne, hk1]; rfl
    have hv : fieldL (L s) = none := by unfold fieldL; rw [hf]
    rw [hv]
    show Calls Try.prog 105 #[.string s] w fun e w' => e = .returned (.tuple #[.agg #[.int .i64 0, .string ⟨#[]⟩], .int .i64 9]) ∧ Below w.heap.size w w'
    generalize mkB p.2 = nb at *
    generalize p.1 = d at *
    clear hx hr hf hv hk
    go_enter Try.func105, Try.ntmps105
    go_wp2_with fail
    refine (pieces_any _ _).mono ?_
    rintro e w1 ⟨rfl, rfl⟩
    go_wp2_with fail
    refine ((HN1 _ _).out (heap_new2 w _ _)).mono ?_
    rintro e w2 ⟨rfl, h2, hbt⟩
    obtain ⟨hc, hf⟩ := butcell hbt
    have hs2 := hbt.size
    have hz2 : w.heap.size + 1 < w2.heap.size := by simp at hs2; omega
    have hz3 : w.heap.size < w2.heap.size := by omega
    have c0 : w2.cell? ⟨w.heap.size, 0, none⟩ = some (.int .i64 0) := by rw [hc _ _ (by simp; omega) (by omega)]; go_simp
    have c1 : w2.cell? ⟨w.heap.size, 1, none⟩ = some (.string ⟨#[]⟩) := by rw [hc _ _ (by simp; omega) (by omega)]; go_simp
    have f0 : w2.frozen? ⟨w.heap.size, 0, none⟩ = false := by rw [hf _ _ (by simp; omega) (by omega)]; go_simp
    have f1 : w2.frozen? ⟨w.heap.size, 1, none⟩ = false := by rw [hf _ _ (by simp; omega) (by omega)]; go_simp
    have HB := Lib.hid (((Below.refl w.heap.size w).alloc (Nat.le_refl _) _).alloc (by simp) _ |>.trans (hbt.below (B := w.heap.size) (by omega) (by simp; omega)))
    clear hc hf h2 hbt hs2
    go_wp2
    refine bodyPost_ret (v := .tuple #[.agg #[.int .i64 0, .string ⟨#[]⟩], .int .i64 9]) (by simp [results, Try.results105, go_sem, hz2, hz3, c0, c1]) rfl ⟨rfl, ?_⟩
    exact ((HB.out.setCell (Nat.le_refl _) _).setCell (Nat.le_refl _) _).alloc (by simp; omega) _
  | some q =>
    have hpt := pieceL_type hf
    rw [hx] at hpt
    obtain ⟨rfl, rfl, rfl⟩ : k = 5 ∧ p = q ∧ n = tlen q := by simpa using hpt
    have hLr : L r = (L s).drop (tlen p) := by rw [← hr]; exact Lib.extract_to_end s _
    have hrs : r.size ≤ 9223372036854775807 := by rw [size_L, hLr, List.length_drop, ← size_L]; omega
    obtain ⟨⟨k2, p2, n2⟩, hx2⟩ : ∃ x, pieceL (L r) = x := ⟨_, rfl⟩
    obtain ⟨r2, hr2⟩ : ∃ r2, r.extract n2 r.size = r2 := ⟨_, rfl⟩
    have HN2 := fun W b => Lib.hid (next_new (b := b) r r2 W hx2 hr2 hrs)
    have hend := pieceL_end (l := L r)
    rw [hx2] at hend
    simp only at hend
    have hfl := firstL_len hf
    have hnil : L r = [] ↔ tlen p = (L s).length := by
      rw [hLr, List.drop_eq_nil_iff]
      omega
    by_cases hk2 : k2 = 1
    · have hv : fieldL (L s) = some p := by unfold fieldL; rw [hf]; exact if_pos (hnil.1 (hend.1 hk2))
      rw [hv]
      show Calls Try.prog 105 #[.string s] w fun e w' => e = .returned (.tuple #[.agg #[.int .i64 p.1, .string (mkB p.2)], .int .i64 0]) ∧ Below w.heap.size w w'
      subst hk2
      generalize mkB p2.2 = nb2 at *
      generalize p2.1 = d2 at *
      generalize mkB p.2 = nb at *
      generalize p.1 = d at *
      clear hx hr hf hv hpt hLr hx2 hr2 hend hfl hnil
      go_enter Try.func105, Try.ntmps105
      go_wp2_with fail
      refine (pieces_any _ _).mono ?_
      rintro e w1 ⟨rfl, rfl⟩
      go_wp2_with fail
      refine ((HN1 _ _).out (heap_new2 w _ _)).mono ?_
      rintro e w2 ⟨rfl, h2, hbt⟩
      have hs2 := hbt.size
      have hz2 : w.heap.size + 1 < w2.heap.size := by simp at hs2; omega
      have R2 := Lib.hid (hbt.keep (q := w.heap.size) (by omega) (heap_alloc_lt (heap_new w _)))
      have H2 := Lib.hid h2
      have HB := Lib.hid (((Below.refl w.heap.size w).alloc (Nat.le_refl _) _).alloc (by simp) _ |>.trans (hbt.below (B := w.heap.size) (by omega) (by simp; omega)))
      clear h2 hbt hs2
      go_wp2_with fail
      refine ((HN2 _ _).out (heap_alloc_lt H2.out)).mono ?_
      rintro e w3 ⟨rfl, h3, hbt3⟩
      have hs3 := hbt3.size
      have hz4 : w2.heap.size < w3.heap.size := by simp at hs3; omega
      have hz5 : w.heap.size < w3.heap.size := by omega
      have R3 := hbt3.keep (q := w.heap.size) (by omega) (heap_alloc_lt R2.out)
      have P3 := hbt3.keep (q := w2.heap.size) (by omega) (heap_new w2 _)
      have c0 : w3.cell? ⟨w.heap.size, 0, none⟩ = some (.int .i64 0) := cells_of R3 0
      have c1 : w3.cell? ⟨w.heap.size, 1, none⟩ = some (.string ⟨#[]⟩) := cells_of R3 1
      have f0 := free_of R3 0
      have f1 := free_of R3 1
      have c2 : w3.cell? ⟨w2.heap.size, 1, none⟩ = some (.int .i64 (d : Int)) := cells_of P3 1
      have c3 : w3.cell? ⟨w2.heap.size, 2, none⟩ = some (.string nb) := cells_of P3 2
      have HB3 := Lib.hid ((HB.out.alloc (by omega) _).trans (hbt3.below (B := w.heap.size) (by omega) (by simp; omega)))
      clear R3 P3 hbt3 h3 hs3
      have hfi := run_kind
      go_wp2
      refine bodyPost_ret (v := .tuple #[.agg #[.int .i64 d, .string nb], .int .i64 0]) (by simp [results, Try.results105, go_sem, c0, c1]) rfl ⟨rfl, ?_⟩
      exact (HB3.out.setCell (Nat.le_refl _) _).setCell (Nat.le_refl _) _
    · have hv : fieldL (L s) = none := by unfold fieldL; rw [hf]; exact if_neg (fun e => hk2 (hend.2 (hnil.2 e)))
      rw [hv]
      show Calls Try.prog 105 #[.string s] w fun e w' => e = .returned (.tuple #[.agg #[.int .i64 0, .string ⟨#[]⟩], .int .i64 9]) ∧ Below w.heap.size w w'
      have hk3 : (((k2 : Nat) : Int) == 1) = false := by rw [beq_eq_false_iff_ne]; omega
      have hk4 : (((k2 : Nat) : Int) != 1) = true := by rw [bne, hk3]; rfl
      generalize mkB p2.2 = nb2 at *
      generalize p2.1 = d2 at *
      generalize mkB p.2 = nb at *
      generalize p.1 = d at *
      clear hx hr hf hv hpt hLr hx2 hr2 hend hfl hnil hk2
      go_enter Try.func105, Try.ntmps105
      go_wp2_with fail
      refine (pieces_any _ _).mono ?_
      rintro e w1 ⟨rfl, rfl⟩
      go_wp2_with fail
      refine ((HN1 _ _).out (heap_new2 w _ _)).mono ?_
      rintro e w2 ⟨rfl, h2, hbt⟩
      have hs2 := hbt.size
      have hz2 : w.heap.size + 1 < w2.heap.size := by simp at hs2; omega
      have R2 := Lib.hid (hbt.keep (q := w.heap.size) (by omega) (heap_alloc_lt (heap_new w _)))
      have H2 := Lib.hid h2
      have HB := Lib.hid (((Below.refl w.heap.size w).alloc (Nat.le_refl _) _).alloc (by simp) _ |>.trans (hbt.below (B := w.heap.size) (by omega) (by simp; omega)))
      clear h2 hbt hs2
      go_wp2_with fail
      refine ((HN2 _ _).out (heap_alloc_lt H2.out)).mono ?_
      rintro e w3 ⟨rfl, h3, hbt3⟩
      have hs3 := hbt3.size
      have hz4 : w2.heap.size < w3.heap.size := by simp at hs3; omega
      have hz5 : w.heap.size < w3.heap.size := by omega
      have R3 := hbt3.keep (q := w.heap.size) (by omega) (heap_alloc_lt R2.out)
      have c0 : w3.cell? ⟨w.heap.size, 0, none⟩ = some (.int .i64 0) := cells_of R3 0
      have c1 : w3.cell? ⟨w.heap.size, 1, none⟩ = some (.string ⟨#[]⟩) := cells_of R3 1
      have f0 := free_of R3 0
      have f1 := free_of R3 1
      have HB3 := Lib.hid ((HB.out.alloc (by omega) _).trans (hbt3.below (B := w.heap.size) (by omega) (by simp; omega)))
      clear R3 hbt3 h3 hs3
      have hfi := run_kind
      go_wp2
      refine bodyPost_ret (v := .tuple #[.agg #[.int .i64 0, .string ⟨#[]⟩], .int .i64 9]) (by simp [results, Try.results105, go_sem, c0, c1]) rfl ⟨rfl, ?_⟩
      exact (HB3.out.setCell (Nat.le_refl _) _).setCell (Nat.le_refl _) _
end Go.Proofs.Ytcgloepfnnfioaa
