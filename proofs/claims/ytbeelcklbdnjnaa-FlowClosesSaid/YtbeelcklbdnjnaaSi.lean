/-
  WALKS of sameness: rows of ints, rows of instructions.
-/
import Derived.Test.YtbeelcklbdnjnaaK1
import Derived.Deep.QuietTactic
set_option linter.unusedVariables false
set_option linter.unusedSimpArgs false
namespace Go.Proofs.Ytbeelcklbdnjnaa
open Go.RowKit

theorem below_drewN {B : Nat} {a w : World} (h : Below B a w) (n : Nat) : Below B a (w.drewN n) := ⟨h.os, h.tape, h.output, h.size, h.block⟩
theorem IRow.drewN {B : Nat} {w : World} {v : Value} {l : List Int} (h : IRow B w v l) (n : Nat) : IRow B (w.drewN n) v l := Row.keep h fun _ _ => rfl
theorem NRow.drewN {B : Nat} {w : World} {v : Value} {l : List In} (h : NRow B w v l) (n : Nat) : NRow B (w.drewN n) v l := h.keep fun _ _ => rfl
/-- The world w, some draws later. -/
def Drawn (w wr : World) : Prop := ∃ n, wr = w.drewN n
theorem Drawn.refl (w : World) : Drawn w w := ⟨0, rfl⟩
theorem Drawn.step {w wr : World} (h : Drawn w wr) (n : Nat) : Drawn w (wr.drewN n) := by
  obtain ⟨m, rfl⟩ := h
  exact ⟨m + n, by rw [World.drewN_drewN]⟩
theorem Drawn.irow {B : Nat} {w wr : World} {v : Value} {l : List Int} (h : Drawn w wr) (hr : IRow B w v l) : IRow B wr v l := by
  obtain ⟨m, rfl⟩ := h
  exact hr.drewN m
theorem Drawn.size {w wr : World} (h : Drawn w wr) : wr.heap.size = w.heap.size := by
  obtain ⟨m, rfl⟩ := h
  rfl
theorem Drawn.below {w wr : World} (h : Drawn w wr) : Below w.heap.size w wr := by
  obtain ⟨m, rfl⟩ := h
  exact below_drewN (Below.refl _ _) m
theorem take_ext {α : Type} {a b : List α} {k : Nat} {x : α} (h : a.take k = b.take k) (ha : a[k]? = some x) (hb : b[k]? = some x) : a.take (k + 1) = b.take (k + 1) := by
  rw [List.take_add_one, List.take_add_one, h, ha, hb]
set_option maxRecDepth 1000000 in
set_option maxHeartbeats 3200000 in
theorem sameInts_any (B : Nat) (a b : List Int) (va vb : Value) (w : World) (ha : IRow B w va a) (hb : IRow B w vb b) (hB : B ≤ w.heap.size) :
    Calls Try.prog 15 #[va, vb] w fun e w' => e = .returned (.bool (decide (a = b))) ∧ Drawn w w' := by
  obtain ⟨Aa, ca, rfl, hca, hma⟩ := ha.form
  obtain ⟨Ab, cb, rfl, hcb, hmb⟩ := hb.form
  unfold maxLen at hma hmb
  have HA := Lib.hid ha
  have HB := Lib.hid hb
  clear ha hb
  by_cases hl : a.length = b.length
  · obtain ⟨n, hn⟩ : ∃ n, a.length = n := ⟨_, rfl⟩
    rw [hn] at hl hca hma HA
    rw [← hl] at hcb hmb HB ⊢
    rw [hn]
    have HLA := Lib.hid hn
    have HLB := Lib.hid hl.symm
    clear hn hl
    go_enter Try.func15, Try.ntmps15
    go_wp2
    go_loopw [5] (fun i wr => ∃ k : Nat, k ≤ n ∧ i = .int .i64 k ∧ a.take k = b.take k ∧ Drawn w wr) (fun i _ => n - (intOf i).toNat)
    case atStart => exact ⟨0, Nat.zero_le _, rfl, rfl, Drawn.refl _⟩
    case round =>
      obtain ⟨k, hk, rfl, hpre, hd⟩ := hrel
      have HD := Lib.hid hd
      have hsz := hd.below.size
      clear hd
      have HP := Lib.hid hpre
      clear hpre
      by_cases hlt : k < n
      · have hx := List.getElem?_eq_getElem (show k < a.length by rw [HLA.out]; exact hlt)
        have hy := List.getElem?_eq_getElem (show k < b.length by rw [HLB.out]; exact hlt)
        generalize a[k]'_ = x at hx
        generalize b[k]'_ = y at hy
        obtain ⟨ba, oa, rfl, hba, cx⟩ := (HD.out.irow HA.out).at_ hx
        obtain ⟨bb, ob, rfl, hbb, cy⟩ := (HD.out.irow HB.out).at_ hy
        have HX := Lib.hid hx
        have HY := Lib.hid hy
        have hbaw : ba < wr.heap.size := by omega
        have hbbw : bb < wr.heap.size := by omega
        clear hx hy
        by_cases he : x = y
        · have e1 : (x == y) = true := by simpa using he
          have e2 : (x != y) = false := by simpa using he
          have HE := Lib.hid he
          clear he
          go_wp2
          go_quiet (fail)
          go_wp2
          go_roundw
          case rel => exact ⟨k + 1, by omega, by go_num, take_ext HP.out HX.out (by rw [HE.out]; exact HY.out), HD.out.step _⟩
          case measure => simp [intOf]; omega
        · have e1 : (x == y) = false := by simpa using he
          have e2 : (x != y) = true := by simpa using he
          have HE := Lib.hid he
          clear he
          go_wp2
          go_quiet (fail)
          go_wp2
          go_ret
          refine ⟨ret_b (decide_eq_false fun e => HE.out ?_).symm, HD.out.step _⟩
          have := HX.out
          rw [e, HY.out] at this
          cases this
          rfl
      · have hkn : k = n := by omega
        have HKN := Lib.hid hkn
        clear hkn
        go_wp2
        go_ret
        refine ⟨ret_b (decide_eq_true ?_).symm, HD.out⟩
        have := HP.out
        rwa [HKN.out, List.take_of_length_le (by rw [HLA.out]; exact Nat.le_refl _), List.take_of_length_le (by rw [HLB.out]; exact Nat.le_refl _)] at this
  · have hd : decide (a = b) = false := decide_eq_false fun e => hl (by rw [e])
    rw [hd]
    have e1 : ((a.length : Int) == (b.length : Int)) = false := by simp; omega
    have e2 : ((a.length : Int) != (b.length : Int)) = true := by simp; omega
    clear hl hd
    go_enter Try.func15, Try.ntmps15
    go_wp2
    go_ret
    exact ⟨rfl, Drawn.refl _⟩
end Go.Proofs.Ytbeelcklbdnjnaa
