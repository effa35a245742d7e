/-
  WALK of 'same' at two signatures that are the same.
-/
import Derived.Test.YtamafgpconfipaaD11
set_option linter.unusedVariables false
set_option linter.unusedSimpArgs false
namespace Go.Proofs.Ytamafgpconfipaa
open Go.RowKit

theorem below_drewN {B : Nat} {a w : World} (h : Below B a w) (n : Nat) : Below B a (w.drewN n) := h.trans ⟨rfl, rfl, rfl, Nat.le_refl _, fun _ _ => rfl⟩
theorem row_at {w w' : World} {xs : List Tz} {ao : Option Addr} {n cap k : Nat} (h : TyRow w (.slice ao xs.length cap) xs) (hn : xs.length = n) (hb : Below w.heap.size w w') (hk : k < n) :
    ∃ (q : Tz) (b o : Nat), ao = some ⟨b, o, none⟩ ∧ xs[k]? = some q ∧ w'.cell? ⟨b, o + k * 2, none⟩ = some (.int .i64 q.1) ∧ w'.cell? ⟨b, o + k * 2 + 1, none⟩ = some (.string q.2) := by
  subst hn
  obtain ⟨ao2, cap', h1, _, _, h4⟩ := h.below hb
  rcases h4 with h0 | ⟨p, o, h5, h6⟩
  · rw [h0] at hk; simp at hk
  · simp only [Value.slice.injEq] at h1
    exact ⟨xs[k], p, o, h1.1.trans h5, List.getElem?_eq_getElem hk, h6 k hk⟩
set_option maxRecDepth 1000000 in
set_option maxHeartbeats 3200000 in
theorem same_true (va vb : Value) (xs : List Tz) (d : Int) (nm : ByteArray) (b : Bool) (w : World) (ha : TyRow w va xs) (hb : TyRow w vb xs) (hl : xs.length ≤ 1000000) :
    Calls Try.prog 24 #[.agg #[va, .int .i64 d, .string nm, .bool b], .agg #[vb, .int .i64 d, .string nm, .bool b]] w fun e w' => e = .returned (.bool true) ∧ Below w.heap.size w w' := by
  obtain ⟨ao, acap, rfl, -⟩ := id ha
  obtain ⟨bo, bcap, rfl, -⟩ := id hb
  have HA := Lib.hid ha
  have HB := Lib.hid hb
  obtain ⟨n, hn⟩ : ∃ n, xs.length = n := ⟨_, rfl⟩
  have HN := Lib.hid hn
  rw [hn] at hl ⊢
  clear ha hb hn
  go_enter Try.func24, Try.ntmps24
  go_wp2
  go_loopg [5] n (fun g i wx => ∃ k : Nat, i = .int .i64 k ∧ k + g = n ∧ wx.heap[w.heap.size]? = some (.cells #[.slice ao n acap, .int .i64 d, .string nm, .bool b] 36 (0, 0)) ∧
    wx.heap[w.heap.size + 1]? = some (.cells #[.slice bo n bcap, .int .i64 d, .string nm, .bool b] 39 (0, 0)) ∧ Below w.heap.size w wx)
  case atStart => exact ⟨0, rfl, by omega, heap_alloc_lt (heap_new w _), heap_new2 w _ _, ((Below.refl _ _).alloc (Nat.le_refl _) _).alloc (by simp) _⟩
  case round =>
    obtain ⟨k, rfl, hkg, h1, h2, hbel⟩ := hrel
    have H1 := Lib.hid h1
    have H2 := Lib.hid h2
    have HBEL := Lib.hid hbel
    have c0 : wr.cell? ⟨w.heap.size, 0, none⟩ = some (.slice ao n acap) := cells_of h1 0
    have c1 : wr.cell? ⟨w.heap.size + 1, 0, none⟩ = some (.slice bo n bcap) := cells_of h2 0
    clear h1 h2 hbel
    by_cases hlt : k < n
    · obtain ⟨q, p1, o1, rfl, hq1, x0, x1⟩ := row_at HA.out HN.out HBEL.out hlt
      obtain ⟨q', p2, o2, rfl, hq2, y0, y1⟩ := row_at HB.out HN.out HBEL.out hlt
      obtain rfl : q = q' := by rw [hq1] at hq2; simpa using hq2
      have i0 : (0 : Int) ≤ (k : Int) := by omega
      have i1 : (k : Int) < (n : Int) := by omega
      have hgg : gk - 1 < gk := by omega
      clear hq1 hq2
      go_wp2_with fail
      go_quiet (fail)
      go_wp2
      go_roundg (gk - 1)
      case measure => exact hgg
      case rel => exact ⟨k + 1, by go_num, by omega, H1.out, H2.out, below_drewN HBEL.out _⟩
    · go_wp2
      go_ret
      exact ⟨rfl, HBEL.out⟩
end Go.Proofs.Ytamafgpconfipaa
