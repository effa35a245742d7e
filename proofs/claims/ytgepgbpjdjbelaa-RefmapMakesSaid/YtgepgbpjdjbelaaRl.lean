/-
  WALK of same: are maps the same?
-/
import Derived.Test.YtgepgbpjdjbelaaRk
set_option linter.unusedVariables false
set_option linter.unusedSimpArgs false
namespace Go.Proofs.Ytgepgbpjdjbelaa
open Go.RowKit

theorem sameBits_eq (B : Nat) (a b : List Bool) (r : Bool) (hr : decide (a = b) = r) (va vb : Value) (w : World) (ha : BRow B w va a) (hb : BRow B w vb b) (hB : B ≤ w.heap.size) :
    Calls Try.prog 19 #[va, vb] w fun e w' => e = .returned (.bool r) ∧ ∃ n, w' = w.drewN n := by
  refine (sameBits_any B a b va vb w ha hb hB).mono ?_
  rintro e w' ⟨h, n, hn⟩
  exact ⟨by rw [h, hr], n, hn⟩
set_option maxRecDepth 1000000 in
set_option maxHeartbeats 6400000 in
theorem same_any (B : Nat) (a b : List MP) (va vb : Value) (w : World) (ha : MRow B w va a) (hb : MRow B w vb b) (hB : B ≤ w.heap.size) :
    Calls Try.prog 10 #[va, vb] w fun e w' => e = .returned (.bool (decide (a = b))) ∧ Drawn w w' := by
  obtain ⟨Aa, ca, rfl, hca, hma⟩ := ha.form
  obtain ⟨Ab, cb, rfl, hcb, hmb⟩ := hb.form
  unfold maxLen at hma hmb
  have HA := Lib.hid ha
  have HB := Lib.hid hb
  clear ha hb
  by_cases hl : a.length = b.length
  · obtain ⟨n, hn⟩ : ∃ n, a.length = n := ⟨_, rfl⟩
    rw [hn] at hl hca hma HA
    rw [← hl] at hcb hmb HB ⊢
    rw [hn]
    have HLA := Lib.hid hn
    have HLB := Lib.hid hl.symm
    have hmaI : (n : Int) ≤ 9223372036854775807 := by omega
    clear hn hl
    go_enter Try.func10, Try.ntmps10
    go_wp2
    go_loopw [5] (fun i wr => ∃ k : Nat, k ≤ n ∧ i = .int .i64 k ∧ a.take k = b.take k ∧ Drawn w wr) (fun i _ => n - (intOf i).toNat)
    case atStart => exact ⟨0, Nat.zero_le _, rfl, rfl, Drawn.refl _⟩
    case round =>
      obtain ⟨k, hk, rfl, hpre, hd⟩ := hrel
      have HD := Lib.hid hd
      have hsz := hd.below.size
      clear hd
      have HP := Lib.hid hpre
      clear hpre
      by_cases hlt : k < n
      · have hx := List.getElem?_eq_getElem (show k < a.length by rw [HLA.out]; exact hlt)
        have hy := List.getElem?_eq_getElem (show k < b.length by rw [HLB.out]; exact hlt)
        generalize a[k]'_ = x at hx
        generalize b[k]'_ = y at hy
        obtain ⟨ba, oa, A1, c1, A2, c2, rfl, hba, rx1, rx2, cx1, cx2⟩ := (HD.out.mrow HA.out).at_ hx
        obtain ⟨bb, ob, A3, c3, A4, c4, rfl, hbb, ry1, ry2, cy1, cy2⟩ := (HD.out.mrow HB.out).at_ hy
        have HX := Lib.hid hx
        have HY := Lib.hid hy
        have X1 := Lib.hid rx1
        have X2 := Lib.hid rx2
        have Y1 := Lib.hid ry1
        have Y2 := Lib.hid ry2
        have hbaw : ba < wr.heap.size := by omega
        have hbbw : bb < wr.heap.size := by omega
        have hBw : B ≤ wr.heap.size := by omega
        obtain ⟨r1, hr1⟩ : ∃ r, decide (x.1 = y.1) = r := ⟨_, rfl⟩
        obtain ⟨r2, hr2⟩ : ∃ r, decide (x.2 = y.2) = r := ⟨_, rfl⟩
        have H1 := Lib.hid hr1
        have H2 := Lib.hid hr2
        clear hx hy rx1 rx2 ry1 ry2 hr1 hr2
        go_wp2
        go_quiet ((go_at_call 19; exact Calls.quiet_of (sameBits_eq B x.1 y.1 _ H1.out _ _ _ (X1.out.drewN _) (Y1.out.drewN _) hBw)))
        go_wp2
        have D2 := Lib.hid (HD.out.step nq)
        have X3 := Lib.hid (X2.out.drewN nq)
        have Y3 := Lib.hid (Y2.out.drewN nq)
        replace cx1 : (wr.drewN nq).cell? _ = _ := cx1
        replace cx2 : (wr.drewN nq).cell? _ = _ := cx2
        replace cy1 : (wr.drewN nq).cell? _ = _ := cy1
        replace cy2 : (wr.drewN nq).cell? _ = _ := cy2
        have hbaw2 : ba < (wr.drewN nq).heap.size := hbaw
        have hbbw2 : bb < (wr.drewN nq).heap.size := hbbw
        have hBw2 : B ≤ (wr.drewN nq).heap.size := hBw
        obtain ⟨W2, hW2⟩ : ∃ W, wr.drewN nq = W := ⟨_, rfl⟩
        rw [hW2] at D2 X3 Y3 cx1 cx2 cy1 cy2 hbaw2 hbbw2 hBw2 ⊢
        clear hW2 X2 Y2 X1 Y1
        go_quiet ((go_at_call 19; exact Calls.quiet_of (sameBits_eq B x.2 y.2 _ H2.out _ _ _ (X3.out.drewN _) (Y3.out.drewN _) hBw2)))
        have NE := Lib.hid (show r1 = false ∨ r2 = false → decide (a = b) = false from fun h => decide_eq_false (fun e => by
          have h1 := HX.out
          rw [e, HY.out] at h1
          injection h1 with h1
          subst h1
          rcases h with h | h
          · have := H1.out
            rw [h] at this
            simp at this
          · have := H2.out
            rw [h] at this
            simp at this))
        have YE := Lib.hid (show r1 = true → r2 = true → a.take (k + 1) = b.take (k + 1) from fun h1 h2 => take_ext HP.out HX.out (by
          have e1 : x.1 = y.1 := by have := H1.out; rw [h1] at this; simpa using this
          have e2 : x.2 = y.2 := by have := H2.out; rw [h2] at this; simpa using this
          rw [HY.out, show y = x from Prod.ext e1.symm e2.symm]))
        clear X3 Y3
        cases r1 with
        | true => cases r2 with
          | true =>
            go_wp2
            go_roundw
            case rel => exact ⟨k + 1, by omega, by go_num, YE.out (by first | rfl | trivial) (by first | rfl | trivial), D2.out.step _⟩
            case measure => simp [intOf]; omega
          | false =>
            go_wp2
            go_ret
            exact ⟨by rw [NE.out (by simp)]; rfl, D2.out.step _⟩
        | false =>
          go_wp2
          go_ret
          exact ⟨by rw [NE.out (by simp)]; rfl, D2.out.step _⟩
      · have hkn : k = n := by omega
        have HKN := Lib.hid hkn
        clear hkn
        go_wp2
        go_ret
        refine ⟨ret_b (decide_eq_true ?_).symm, HD.out⟩
        have := HP.out
        rwa [HKN.out, List.take_of_length_le (by rw [HLA.out]; exact Nat.le_refl _), List.take_of_length_le (by rw [HLB.out]; exact Nat.le_refl _)] at this
  · have hd : decide (a = b) = false := decide_eq_false fun e => hl (by rw [e])
    rw [hd]
    have e1 : ((a.length : Int) == (b.length : Int)) = false := by simp; omega
    have e2 : ((a.length : Int) != (b.length : Int)) = true := by simp; omega
    clear hl hd
    go_enter Try.func10, Try.ntmps10
    go_wp2
    go_ret
    exact ⟨rfl, Drawn.refl _⟩
theorem ex_1 : unp (L ⟨#[0, 1, 3, 1, 80]⟩) = ([([false, true, false], [true])], 0) := by decide
theorem ex_2 : unp (L ⟨#[0, 1, 3, 1, 81]⟩) = ([], 4) := by decide
theorem ex_3 : unp (L ⟨#[0, 1, 3, 1]⟩) = ([], 5) := by decide
theorem ex_4 : unp (L ⟨#[0, 1, 65, 0]⟩) = ([], 2) := by decide
theorem ex_5 : pkE [([false, true, false], [true])] = 0 ∧ pkS [([false, true, false], [true])] = [0, 1, 3, 1, 80] := by decide
end Go.Proofs.Ytgepgbpjdjbelaa
