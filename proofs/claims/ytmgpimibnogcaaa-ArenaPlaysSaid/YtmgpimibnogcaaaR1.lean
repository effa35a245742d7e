/-
  The document's arena in memory; WALKS of its poison, New, used.
-/
import Derived.Test.YtmgpimibnogcaaaEm
import Derived.Deep.QuietTactic
import Derived.Deep.DeepCutAuto
set_option linter.unusedVariables false
set_option linter.unusedSimpArgs false
namespace Go.Proofs.Ytmgpimibnogcaaa
open Go.RowKit

/-- The document's arena at block r, its words at block rp. -/
def RM (r rp : Nat) (ws : List Int) (w : World) : Prop := w.heap[r]? = some (.cells #[.slice (some ⟨rp, 0, none⟩) ws.length ws.length] 65 (0, 0)) ∧ w.heap[rp]? = some (.cells (icells ws).toArray 3 (0, 0))
section
variable {r rp : Nat} {ws : List Int} {w w' : World}
theorem RM.ne (h : RM r rp ws w) : r ≠ rp := by
  rintro rfl
  have := h.1.symm.trans h.2
  simp at this
theorem RM.keep (h : RM r rp ws w) (h1 : w'.heap[r]? = w.heap[r]?) (h2 : w'.heap[rp]? = w.heap[rp]?) : RM r rp ws w' := ⟨h1.trans h.1, h2.trans h.2⟩
theorem RM.lt (h : RM r rp ws w) : r < w.heap.size ∧ rp < w.heap.size := ⟨lt_of_block h.1, lt_of_block h.2⟩
theorem RM.below (h : RM r rp ws w) (hb : Below w.heap.size w w') : RM r rp ws w' := h.keep (hb.block _ h.lt.1) (hb.block _ h.lt.2)
theorem RM.drewN (h : RM r rp ws w) (n : Nat) : RM r rp ws (w.drewN n) := h.keep rfl rfl
theorem RM.upd {S : List Nat} (h : RM r rp ws w) (hu : Upd S w w') (h1 : r ∉ S) (h2 : rp ∉ S) : RM r rp ws w' := h.keep (hu.block _ h.lt.1 h1) (hu.block _ h.lt.2 h2)
theorem RM.box (h : RM r rp ws w) : w.cell? ⟨r, 0, none⟩ = some (.slice (some ⟨rp, 0, none⟩) ws.length ws.length) := cells_of h.1 0
theorem RM.word (h : RM r rp ws w) {a : Nat} {v : Int} (hv : ws[a]? = some v) : w.cell? ⟨rp, a, none⟩ = some (.int .i64 v) := by
  rw [cells_of h.2, List.getElem?_toArray]
  unfold icells
  rw [List.getElem?_map, hv]
  rfl
theorem RM.free (h : RM r rp ws w) (a : Nat) : w.frozen? ⟨rp, a, none⟩ = false := free_of h.2 a
theorem RM.store (h : RM r rp ws w) (a : Nat) (v : Int) : RM r rp (ws.set a v) (w.setCell ⟨rp, a, none⟩ (.int .i64 v)) := by
  refine ⟨?_, ?_⟩
  · rw [List.length_set]
    exact heap_setCell_ne (p := ⟨rp, a, none⟩) h.ne h.1
  · rw [heap_set_eq h.2, List.setIfInBounds_toArray]
    unfold icells
    rw [List.map_set]
end
set_option maxRecDepth 1000000 in
set_option maxHeartbeats 3200000 in
theorem rpoison_any (r rp : Nat) (ws : List Int) (w : World) (h : RM r rp ws w) (o m : Nat) (hm : o + m ≤ ws.length) (hn : ws.length ≤ 1048576) :
    Calls Try.prog 29 #[.pointer (some ⟨r, 0, none⟩), .int .i64 (o : Int), .int .i64 ((o + m : Nat) : Int)] w fun e w' => e = .returned (.tuple #[]) ∧ RM r rp (fillN PZ ws o m) w' ∧ Upd [rp] w w' := by
  have H := Lib.hid h
  obtain ⟨n, hwl⟩ : ∃ n, ws.length = n := ⟨_, rfl⟩
  rw [hwl] at hm hn
  have HWL := Lib.hid hwl
  clear h hwl
  go_enter Try.func29, Try.ntmps29
  go_wp2
  go_loopg [6] m (fun g iv wx => ∃ k : Nat, iv = .int .i64 ((o + k : Nat) : Int) ∧ k + g = m ∧ RM r rp (fillN PZ ws o k) wx ∧ Upd [rp] w wx)
  case atStart => exact ⟨0, rfl, by omega, H.out, Upd.refl _ _⟩
  case round =>
    obtain ⟨k, rfl, hkg, hr, hu⟩ := hrel
    have R1 := Lib.hid hr
    have U1 := Lib.hid hu
    by_cases hk : k < m
    · have hki : ((o + k : Nat) : Int) < ((o + m : Nat) : Int) := by omega
      have hkn : ((o + k : Nat) : Int) < (n : Int) := by omega
      have hkn' : o + k < n := by omega
      have hgg : gk - 1 < gk := by omega
      obtain ⟨v, hv⟩ : ∃ v, (fillN PZ ws o k)[o + k]? = some v := ⟨_, List.getElem?_eq_getElem (by rw [fillN_len, HWL.out]; omega)⟩
      have c0 := hr.box
      rw [fillN_len, HWL.out] at c0
      have c1 := hr.word hv
      have f1 := hr.free (o + k)
      obtain ⟨l1, l2⟩ := hr.lt
      have R2 := Lib.hid (hr.store (o + k) PZ)
      unfold PZ at R2
      have HN := Lib.hid (show ((o + k : Nat) : Int) + 1 = ((o + (k + 1) : Nat) : Int) by omega)
      have hw1 : IntKind.i64.wrap (((o + k : Nat) : Int) + 1) = ((o + (k + 1) : Nat) : Int) := by rw [IntWalk.i64_in _ (by omega)]; omega
      clear hr hu hv
      generalize hok : o + k = a at *
      go_wp2
      go_roundg (gk - 1)
      case measure => exact hgg
      case rel => exact ⟨k + 1, by first | rfl | (rw [← HN.out]; rfl), by omega, by subst hok; exact R2.out, U1.out.trans (Upd.set (by simp))⟩
    · have hki : ¬ ((o + k : Nat) : Int) < ((o + m : Nat) : Int) := by omega
      obtain rfl : m = k := by omega
      clear hr hu
      go_wp2
      go_end0
      exact ⟨rfl, R1.out, U1.out⟩
set_option maxRecDepth 1000000 in
set_option maxHeartbeats 3200000 in
theorem rnew_any (n : Nat) (w : World) (h0 : 16 ≤ n) (h1 : n ≤ 1048576) :
    Calls Try.prog 11 #[.int .i64 (n : Int)] w fun e w' => ∃ r rp, e = .returned (.pointer (some ⟨r, 0, none⟩)) ∧ RM r rp (words [freeBk (n - 1)]) w' ∧ (w.heap.size ≤ r ∧ w.heap.size ≤ rp) ∧ Below w.heap.size w w' := by
  have h0i : ¬ (n : Int) < 16 := by omega
  have h1i : ¬ (1048576 : Int) < (n : Int) := by omega
  have q1 : 1 < n := by omega
  have q2 : (1 : Int) < (n : Int) := by omega
  have q3 : IntKind.i64.wrap ((n : Int) - 1) = ((n - 1 : Nat) : Int) := by rw [IntWalk.i64_in _ (by omega)]; omega
  have q4 : IntKind.i64.wrap (2 * ((n - 1 : Nat) : Int)) = 2 * ((n - 1 : Nat) : Int) := IntWalk.i64_in _ (by omega)
  have HN := Lib.hid (And.intro h0 h1)
  have m1 := make_ints n h1
  have hr0 : RM (w.heap.size + 1) w.heap.size (List.replicate n 0) ((w.alloc (.cells (icells (List.replicate n 0)).toArray 3)).alloc (.cells #[.slice (some ⟨w.heap.size, 0, none⟩) n n] 65)) := by
    refine ⟨?_, heap_alloc_lt (heap_new w _)⟩
    have := heap_new (w.alloc (.cells (icells (List.replicate n 0)).toArray 3)) (.cells #[.slice (some ⟨w.heap.size, 0, none⟩) n n] 65)
    rw [show (w.alloc (.cells (icells (List.replicate n 0)).toArray 3)).heap.size = w.heap.size + 1 by simp] at this
    rw [List.length_replicate]
    exact this
  have hb0 : Below w.heap.size w ((w.alloc (.cells (icells (List.replicate n 0)).toArray 3)).alloc (.cells #[.slice (some ⟨w.heap.size, 0, none⟩) n n] 65)) := ((Below.refl _ _).alloc (Nat.le_refl _) _).alloc (by simp) _
  have R0 := Lib.hid hr0
  have B0 := Lib.hid hb0
  clear hr0 hb0
  go_enter Try.func11, Try.ntmps11
  go_upto_region 4 with fail
  clear m1
  generalize (w.alloc (.cells (icells (List.replicate n 0)).toArray 3)).alloc (.cells #[.slice (some ⟨w.heap.size, 0, none⟩) n n] 65) = w1 at *
  have c0 := R0.out.box
  rw [List.length_replicate] at c0
  have c1 := R0.out.word (a := 1) (v := 0) (by rw [List.getElem?_replicate, if_pos (by omega)])
  have f1 := R0.out.free 1
  obtain ⟨l1, l2⟩ := R0.out.lt
  have R1 := Lib.hid (R0.out.store 1 (2 * ((n - 1 : Nat) : Int)))
  have B1 := Lib.hid (B0.out.setCell (p := ⟨w.heap.size, 1, none⟩) (Nat.le_refl _) (.int .i64 (2 * ((n - 1 : Nat) : Int))))
  have HP := Lib.hid (rpoison_any _ _ _ _ R1.out 2 (n - 2) (by rw [List.length_set, List.length_replicate]; omega) (by rw [List.length_set, List.length_replicate]; exact h1))
  rw [show 2 + (n - 2) = n by omega] at HP
  go_wp2_with fail
  refine HP.out.mono ?_
  rintro e w2 ⟨rfl, hr, hu⟩
  have e1 : fillN PZ ((List.replicate n 0).set 1 (2 * ((n - 1 : Nat) : Int))) 2 (n - 2) = words [freeBk (n - 1)] := by
    have := HN.out
    obtain ⟨m, rfl⟩ : ∃ m, n = m + 2 := ⟨n - 2, by omega⟩
    rw [show m + 2 - 2 = m by omega, show m + 2 - 1 = m + 1 by omega]
    have e0 : (List.replicate (m + 2) (0 : Int)).set 1 (2 * ((m + 1 : Nat) : Int)) = [0, 2 * ((m + 1 : Nat) : Int)] ++ List.replicate m 0 ++ [] := by
      rw [List.replicate_succ, List.replicate_succ, List.append_nil]
      rfl
    rw [e0, fillN_mid PZ (List.replicate m 0) [0, 2 * ((m + 1 : Nat) : Int)] [] 2 m rfl (by simp), List.append_nil]
    show _ = 0 :: ((freeBk (m + 1)).hd :: (freeBk (m + 1)).body ++ [])
    rw [freeBk_hd (by omega), List.append_nil]
    rfl
  rw [e1] at hr
  have R2 := Lib.hid hr
  have B2 := Lib.hid (B1.out.trans (hu.below (B := w.heap.size) (fun x hx => by rw [List.mem_singleton] at hx; omega) B1.out.size))
  clear hr hu e1 c0 c1 f1
  go_wp2
  go_ret
  exact ⟨_, _, rfl, R2.out, ⟨by omega, by omega⟩, B2.out⟩
end Go.Proofs.Ytmgpimibnogcaaa
