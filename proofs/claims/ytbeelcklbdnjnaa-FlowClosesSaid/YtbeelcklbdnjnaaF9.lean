/-
  WALKS: sameness of rows.
-/
import Derived.Test.YtbeelcklbdnjnaaF8
import Derived.Test.YtbeelcklbdnjnaaSi
set_option linter.unusedVariables false
set_option linter.unusedSimpArgs false
namespace Go.Proofs.Ytbeelcklbdnjnaa
open Go.RowKit

theorem sameInts_eq (B : Nat) (a b : List Int) (r : Bool) (hr : decide (a = b) = r) (va vb : Value) (w : World) (ha : IRow B w va a) (hb : IRow B w vb b) (hB : B ≤ w.heap.size) :
    Calls Try.prog 15 #[va, vb] w fun e w' => e = .returned (.bool r) ∧ ∃ n, w' = w.drewN n := by
  refine (sameInts_any B a b va vb w ha hb hB).mono ?_
  rintro e w' ⟨h, n, hn⟩
  exact ⟨by rw [h, hr], n, hn⟩
theorem LRow.drewN {B : Nat} {w : World} {v : Value} {l : List (List Int)} (h : LRow B w v l) (n : Nat) : LRow B (w.drewN n) v l := h.keep fun _ _ => rfl
theorem BRow.drewN {B : Nat} {w : World} {v : Value} {l : List Bool} (h : BRow B w v l) (n : Nat) : BRow B (w.drewN n) v l := Row.keep h fun _ _ => rfl
theorem Drawn.lrow {B : Nat} {w wr : World} {v : Value} {l : List (List Int)} (h : Drawn w wr) (hr : LRow B w v l) : LRow B wr v l := by
  obtain ⟨m, rfl⟩ := h
  exact hr.drewN m
theorem Drawn.brow {B : Nat} {w wr : World} {v : Value} {l : List Bool} (h : Drawn w wr) (hr : BRow B w v l) : BRow B wr v l := by
  obtain ⟨m, rfl⟩ := h
  exact hr.drewN m
set_option maxRecDepth 1000000 in
set_option maxHeartbeats 3200000 in
theorem sameBools_any (B : Nat) (a b : List Bool) (va vb : Value) (w : World) (ha : BRow B w va a) (hb : BRow B w vb b) (hB : B ≤ w.heap.size) :
    Calls Try.prog 20 #[va, vb] w fun e w' => e = .returned (.bool (decide (a = b))) ∧ Drawn w w' := by
  obtain ⟨Aa, ca, rfl, hca, hma⟩ := ha.form
  obtain ⟨Ab, cb, rfl, hcb, hmb⟩ := hb.form
  unfold maxLen at hma hmb
  have HA := Lib.hid ha
  have HB := Lib.hid hb
  clear ha hb
  by_cases hl : a.length = b.length
  · obtain ⟨n, hn⟩ : ∃ n, a.length = n := ⟨_, rfl⟩
    rw [hn] at hl hca hma HA
    rw [← hl] at hcb hmb HB ⊢
    rw [hn]
    have HLA := Lib.hid hn
    have HLB := Lib.hid hl.symm
    clear hn hl
    go_enter Try.func20, Try.ntmps20
    go_wp2
    go_loopw [5] (fun i wr => ∃ k : Nat, k ≤ n ∧ i = .int .i64 k ∧ a.take k = b.take k ∧ Drawn w wr) (fun i _ => n - (intOf i).toNat)
    case atStart => exact ⟨0, Nat.zero_le _, rfl, rfl, Drawn.refl _⟩
    case round =>
      obtain ⟨k, hk, rfl, hpre, hd⟩ := hrel
      have HD := Lib.hid hd
      have hsz := hd.below.size
      clear hd
      have HP := Lib.hid hpre
      clear hpre
      by_cases hlt : k < n
      · have hx := List.getElem?_eq_getElem (show k < a.length by rw [HLA.out]; exact hlt)
        have hy := List.getElem?_eq_getElem (show k < b.length by rw [HLB.out]; exact hlt)
        generalize a[k]'_ = x at hx
        generalize b[k]'_ = y at hy
        obtain ⟨ba, oa, rfl, hba, cx⟩ := (HD.out.brow HA.out).at_ hx
        obtain ⟨bb, ob, rfl, hbb, cy⟩ := (HD.out.brow HB.out).at_ hy
        have HX := Lib.hid hx
        have HY := Lib.hid hy
        have hbaw : ba < wr.heap.size := by omega
        have hbbw : bb < wr.heap.size := by omega
        clear hx hy
        by_cases he : x = y
        · have e1 : (x == y) = true := by simpa using he
          have e2 : (x != y) = false := by simpa using he
          have HE := Lib.hid he
          clear he
          go_wp2
          go_quiet (fail)
          go_wp2
          go_roundw
          case rel => exact ⟨k + 1, by omega, by go_num, take_ext HP.out HX.out (by rw [HE.out]; exact HY.out), HD.out.step _⟩
          case measure => simp [intOf]; omega
        · have e1 : (x == y) = false := by simpa using he
          have e2 : (x != y) = true := by simpa using he
          have HE := Lib.hid he
          clear he
          go_wp2
          go_quiet (fail)
          go_wp2
          go_ret
          refine ⟨ret_b (decide_eq_false fun e => HE.out ?_).symm, HD.out.step _⟩
          have := HX.out
          rw [e, HY.out] at this
          cases this
          rfl
      · have hkn : k = n := by omega
        have HKN := Lib.hid hkn
        clear hkn
        go_wp2
        go_ret
        refine ⟨ret_b (decide_eq_true ?_).symm, HD.out⟩
        have := HP.out
        rwa [HKN.out, List.take_of_length_le (by rw [HLA.out]; exact Nat.le_refl _), List.take_of_length_le (by rw [HLB.out]; exact Nat.le_refl _)] at this
  · have hd : decide (a = b) = false := decide_eq_false fun e => hl (by rw [e])
    rw [hd]
    have e1 : ((a.length : Int) == (b.length : Int)) = false := by simp; omega
    have e2 : ((a.length : Int) != (b.length : Int)) = true := by simp; omega
    clear hl hd
    go_enter Try.func20, Try.ntmps20
    go_wp2
    go_ret
    exact ⟨rfl, Drawn.refl _⟩
set_option maxRecDepth 1000000 in
set_option maxHeartbeats 3200000 in
theorem sameLists_any (B : Nat) (a b : List (List Int)) (va vb : Value) (w : World) (ha : LRow B w va a) (hb : LRow B w vb b) (hB : B ≤ w.heap.size) :
    Calls Try.prog 10 #[va, vb] w fun e w' => e = .returned (.bool (decide (a = b))) ∧ Drawn w w' := by
  obtain ⟨Aa, ca, rfl, hca, hma⟩ := ha.form
  obtain ⟨Ab, cb, rfl, hcb, hmb⟩ := hb.form
  unfold maxLen at hma hmb
  have HA := Lib.hid ha
  have HB := Lib.hid hb
  clear ha hb
  by_cases hl : a.length = b.length
  · obtain ⟨n, hn⟩ : ∃ n, a.length = n := ⟨_, rfl⟩
    rw [hn] at hl hca hma HA
    rw [← hl] at hcb hmb HB ⊢
    rw [hn]
    have HLA := Lib.hid hn
    have HLB := Lib.hid hl.symm
    clear hn hl
    go_enter Try.func10, Try.ntmps10
    go_wp2
    go_loopw [5] (fun i wr => ∃ k : Nat, k ≤ n ∧ i = .int .i64 k ∧ a.take k = b.take k ∧ Drawn w wr) (fun i _ => n - (intOf i).toNat)
    case atStart => exact ⟨0, Nat.zero_le _, rfl, rfl, Drawn.refl _⟩
    case round =>
      obtain ⟨k, hk, rfl, hpre, hd⟩ := hrel
      have HD := Lib.hid hd
      have hsz := hd.below.size
      clear hd
      have HP := Lib.hid hpre
      clear hpre
      by_cases hlt : k < n
      · have hx := List.getElem?_eq_getElem (show k < a.length by rw [HLA.out]; exact hlt)
        have hy := List.getElem?_eq_getElem (show k < b.length by rw [HLB.out]; exact hlt)
        generalize a[k]'_ = x at hx
        generalize b[k]'_ = y at hy
        obtain ⟨ba, oa, A1, c1, rfl, hba, hrx, cx⟩ := (HD.out.lrow HA.out).at_ hx
        obtain ⟨bb, ob, A2, c2, rfl, hbb, hry, cy⟩ := (HD.out.lrow HB.out).at_ hy
        have HX := Lib.hid hx
        have HY := Lib.hid hy
        have HRX := Lib.hid hrx
        have HRY := Lib.hid hry
        have hbaw : ba < wr.heap.size := by omega
        have hbbw : bb < wr.heap.size := by omega
        have hBw : B ≤ wr.heap.size := by omega
        clear hx hy hrx hry
        by_cases he : x = y
        · have hde : decide (x = y) = true := decide_eq_true he
          have HDE := Lib.hid hde
          have HE := Lib.hid he
          clear he hde
          go_wp2
          go_quiet ((go_at_call 15; exact Calls.quiet_of (sameInts_eq B x y _ HDE.out _ _ _ (HRX.out.drewN _) (HRY.out.drewN _) hBw)))
          go_wp2
          go_roundw
          case rel => exact ⟨k + 1, by omega, by go_num, take_ext HP.out HX.out (by rw [HE.out]; exact HY.out), HD.out.step _⟩
          case measure => simp [intOf]; omega
        · have hde : decide (x = y) = false := decide_eq_false he
          have HDE := Lib.hid hde
          have HE := Lib.hid he
          clear he hde
          go_wp2
          go_quiet ((go_at_call 15; exact Calls.quiet_of (sameInts_eq B x y _ HDE.out _ _ _ (HRX.out.drewN _) (HRY.out.drewN _) hBw)))
          go_wp2
          go_ret
          refine ⟨ret_b (decide_eq_false fun e => HE.out ?_).symm, HD.out.step _⟩
          have := HX.out
          rw [e, HY.out] at this
          cases this
          rfl
      · have hkn : k = n := by omega
        have HKN := Lib.hid hkn
        clear hkn
        go_wp2
        go_ret
        refine ⟨ret_b (decide_eq_true ?_).symm, HD.out⟩
        have := HP.out
        rwa [HKN.out, List.take_of_length_le (by rw [HLA.out]; exact Nat.le_refl _), List.take_of_length_le (by rw [HLB.out]; exact Nat.le_refl _)] at this
  · have hd : decide (a = b) = false := decide_eq_false fun e => hl (by rw [e])
    rw [hd]
    have e1 : ((a.length : Int) == (b.length : Int)) = false := by simp; omega
    have e2 : ((a.length : Int) != (b.length : Int)) = true := by simp; omega
    clear hl hd
    go_enter Try.func10, Try.ntmps10
    go_wp2
    go_ret
    exact ⟨rfl, Drawn.refl _⟩
end Go.Proofs.Ytbeelcklbdnjnaa
