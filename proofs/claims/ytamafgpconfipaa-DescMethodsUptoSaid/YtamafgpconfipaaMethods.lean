/-
  WALK of the law on signatures.
-/
import Derived.Test.YtamafgpconfipaaD14
import Derived.Test.YtamafgpconfipaaBack
set_option linter.unusedVariables false
set_option linter.unusedSimpArgs false
namespace Go.Proofs.Ytamafgpconfipaa
open Go.RowKit

theorem res_le (m : Option (List Ty × Option Ty)) : (res m).1.length ≤ 16 := by
  cases m with
  | none => rw [res_none]; simp
  | some m =>
    obtain ⟨ts, q⟩ := m
    by_cases h : ts.length ≤ 16
    · have hr : res (some (ts, q)) = (ts, q.getD (0, []), q.isNone, 0) := by
        show (if ts.length ≤ 16 then _ else _) = _
        rw [if_pos h]
      rw [hr]; exact h
    · have hr : res (some (ts, q)) = ([], (0, []), false, 3) := by
        show (if ts.length ≤ 16 then _ else _) = _
        rw [if_neg h]
      rw [hr]; simp
/-- Both answers to a text. -/
theorem meth_both (s : ByteArray) (hs : s.size ≤ 1000000) :
    ∃ (ys : List Tz) (qd : Int) (qn : ByteArray) (c : Bool) (err : Int), ys.length ≤ 16 ∧
      (∀ W, Calls Try.prog 20 #[.string s] W fun e w' => ∃ v, e = .returned (.tuple #[.agg #[v, .int .i64 qd, .string qn, .bool c], .int .i64 err]) ∧ TyRow w' v ys ∧ Below W.heap.size W w') ∧
      (∀ W, Calls Try.prog 21 #[.string s] W fun e w' => ∃ v, e = .returned (.tuple #[.agg #[v, .int .i64 qd, .string qn, .bool c], .int .i64 err]) ∧ TyRow w' v ys ∧ Below W.heap.size W w') := by
  refine ⟨(res (methL (L s))).1.map zOf, (res (methL (L s))).2.1.1, mkB (res (methL (L s))).2.1.2, (res (methL (L s))).2.2.1, (res (methL (L s))).2.2.2, by simpa using res_le _, fun W => ?_, fun W => ?_⟩
  · refine (Method_any s W hs).mono fun e w' hh => ?_
    obtain ⟨v, rfl, own, hb⟩ := hh
    exact ⟨v, rfl, own_row own, hb⟩
  · refine (refMethod_any s W hs).mono fun e w' hh => ?_
    obtain ⟨v, rfl, own, hb⟩ := hh
    exact ⟨v, rfl, own_row own, hb⟩
set_option maxRecDepth 1000000 in
set_option maxHeartbeats 12800000 in
theorem methods_walk (s : ByteArray) (v : Value) (xs : List Tz) (rd : Int) (rn : ByteArray) (b : Bool) (w : World) (hv : TyRow w v xs) (hl : s.size ≤ maxLen) (hz : ∀ x ∈ xs, x.2.size ≤ 2000000) (hrz : rn.size ≤ 2000000) :
    Calls Try.prog 4 #[.string s, .agg #[v, .int .i64 rd, .string rn, .bool b]] w fun e w' => e = .returned (.bool true) ∧ Below w.heap.size w w' := by
  obtain ⟨ao, cap, rfl, -⟩ := id hv
  obtain ⟨n, hn⟩ : ∃ n, xs.length = n := ⟨_, rfl⟩
  have HN := Lib.hid hn
  have hni : (n : Int) ≤ 9223372036854775807 := by
    obtain ⟨_, _, h1, h2, h3, _⟩ := hv
    unfold maxLen at h3
    omega
  have hsi : (s.size : Int) ≤ 9223372036854775807 := by
    unfold maxLen at hl
    omega
  rw [hn]
  have HV : Hid (TyRow w (.slice ao n cap) xs) := by rw [← hn]; exact hv
  have HZ := Lib.hid hz
  have HRZ := Lib.hid hrz
  have HBE := Lib.hid ((Below.refl w.heap.size w).alloc (Nat.le_refl _) (.cells #[.slice ao n cap, .int .i64 rd, .string rn, .bool b] 36))
  clear hv hn hz hrz hl
  by_cases hs5 : s.size ≤ 50000
  · have hs6 : (s.size : Int) ≤ 50000 := by omega
    by_cases hn1 : n ≤ 1000
    · have hn2 : (n : Int) ≤ 1000 := by omega
      obtain ⟨T, hT⟩ : ∃ T, sgT xs (rd, rn) b = T := ⟨_, rfl⟩
      obtain ⟨E, hE⟩ : ∃ E, sgE xs (rd, rn) b = E := ⟨_, rfl⟩
      have CS := fun W (h : TyRow W (.slice ao n cap) xs) => Lib.hid (Sign_any (.slice ao n cap) xs rd rn b W h (by rw [HN.out]; omega))
      have CR := fun W (h : TyRow W (.slice ao n cap) xs) => Lib.hid (refSign_any (.slice ao n cap) xs rd rn b W h (by rw [HN.out]; omega) HZ.out HRZ.out)
      rw [hT, hE] at CS CR
      obtain ⟨ys, qd, qn, c, err, hy, CM0, CN0⟩ := meth_both s (by omega)
      have CM := fun W => Lib.hid (CM0 W)
      have CN := fun W => Lib.hid (CN0 W)
      have HY := Lib.hid hy
      clear hT hE CM0 CN0 hy
      go_enter Try.func4, Try.ntmps4
      go_wp2_with fail
      refine (shown_any _).mono ?_
      rintro e w1 ⟨rfl, hb⟩
      have M1 := Lib.hid (Below.keep hb (q := w.heap.size) (by simp) (heap_new w _))
      have W1 := Lib.hid (HBE.out.trans (hb.mono (by simp)))
      have l1 := lt_of_block M1.out
      have m10 : w1.cell? ⟨w.heap.size, 0, none⟩ = some (.slice ao n cap) := cells_of M1.out 0
      clear hb
      go_wp2_with fail
      refine (CM _).out.mono ?_
      rintro e w2 ⟨v2, rfl, row2, hb⟩
      obtain ⟨o2, c2, rfl, -⟩ := id row2
      have ROW2 := Lib.hid (row2.alloc (.cells #[.slice o2 ys.length c2, .int .i64 qd, .string qn, .bool c] 36))
      have M2 := Lib.hid (heap_alloc_lt (o := .cells #[.slice o2 ys.length c2, .int .i64 qd, .string qn, .bool c] 36) (Below.keep hb l1 M1.out))
      have W2 := Lib.hid ((W1.out.trans (hb.mono W1.out.size)).alloc (W1.out.trans (hb.mono W1.out.size)).size (.cells #[.slice o2 ys.length c2, .int .i64 qd, .string qn, .bool c] 36))
      have A2 := Lib.hid (heap_new w2 (.cells #[.slice o2 ys.length c2, .int .i64 qd, .string qn, .bool c] 36))
      have lw : w1.heap.size ≤ w2.heap.size := hb.size
      clear row2 hb m10
      go_wp2_with fail
      refine (CN _).out.mono ?_
      rintro e w3 ⟨v3, rfl, row3, hb⟩
      obtain ⟨o3, c3, rfl, -⟩ := id row3
      have ROW3 := Lib.hid (row3.alloc (.cells #[.slice o3 ys.length c3, .int .i64 qd, .string qn, .bool c] 39))
      have ROW23 := Lib.hid ((ROW2.out.below hb).alloc (.cells #[.slice o3 ys.length c3, .int .i64 qd, .string qn, .bool c] 39))
      have M3 := Lib.hid (heap_alloc_lt (o := .cells #[.slice o3 ys.length c3, .int .i64 qd, .string qn, .bool c] 39) (Below.keep hb (lt_of_block M2.out) M2.out))
      have A3 := Lib.hid (heap_alloc_lt (o := .cells #[.slice o3 ys.length c3, .int .i64 qd, .string qn, .bool c] 39) (Below.keep hb (lt_of_block A2.out) A2.out))
      have W3 := Lib.hid ((W2.out.trans (hb.mono W2.out.size)).alloc (W2.out.trans (hb.mono W2.out.size)).size (.cells #[.slice o3 ys.length c3, .int .i64 qd, .string qn, .bool c] 39))
      have B3 := Lib.hid (heap_new w3 (.cells #[.slice o3 ys.length c3, .int .i64 qd, .string qn, .bool c] 39))
      have W3w := Lib.hid (W2.out.trans (hb.mono W2.out.size))
      have M3w := Lib.hid (Below.keep hb (lt_of_block M2.out) M2.out)
      have l3 := lt_of_block M3w.out
      have m30 : w3.cell? ⟨w.heap.size, 0, none⟩ = some (.slice ao n cap) := cells_of M3w.out 0
      have m31 : w3.cell? ⟨w.heap.size, 1, none⟩ = some (.int .i64 rd) := cells_of M3w.out 1
      have m32 : w3.cell? ⟨w.heap.size, 2, none⟩ = some (.string rn) := cells_of M3w.out 2
      have m33 : w3.cell? ⟨w.heap.size, 3, none⟩ = some (.bool b) := cells_of M3w.out 3
      clear row3 hb
      go_wp2_with fail
      refine (CS _ (HV.out.below W3.out)).out.mono ?_
      rintro e w4 ⟨rfl, hb⟩
      have ROW4 := Lib.hid (ROW3.out.below hb)
      have ROW24 := Lib.hid (ROW23.out.below hb)
      have M4 := Lib.hid (Below.keep hb (lt_of_block M3.out) M3.out)
      have A4 := Lib.hid (Below.keep hb (lt_of_block A3.out) A3.out)
      have B4 := Lib.hid (Below.keep hb (lt_of_block B3.out) B3.out)
      have W4 := Lib.hid (W3.out.trans (hb.mono W3.out.size))
      have l4 := lt_of_block M4.out
      have m40 : w4.cell? ⟨w.heap.size, 0, none⟩ = some (.slice ao n cap) := cells_of M4.out 0
      have m41 : w4.cell? ⟨w.heap.size, 1, none⟩ = some (.int .i64 rd) := cells_of M4.out 1
      have m42 : w4.cell? ⟨w.heap.size, 2, none⟩ = some (.string rn) := cells_of M4.out 2
      have m43 : w4.cell? ⟨w.heap.size, 3, none⟩ = some (.bool b) := cells_of M4.out 3
      clear hb m30 m31 m32 m33
      go_wp2_with fail
      refine (CR _ (HV.out.below W4.out)).out.mono ?_
      rintro e w5 ⟨rfl, hb⟩
      have ROW5 := Lib.hid (ROW4.out.below hb)
      have ROW25 := Lib.hid (ROW24.out.below hb)
      have A5 := Lib.hid (Below.keep hb (lt_of_block A4.out) A4.out)
      have B5 := Lib.hid (Below.keep hb (lt_of_block B4.out) B4.out)
      have W5 := Lib.hid (W4.out.trans (hb.mono W4.out.size))
      have la := lt_of_block A5.out
      have lb := lt_of_block B5.out
      have a0 : w5.cell? ⟨w2.heap.size, 0, none⟩ = some (.slice o2 ys.length c2) := cells_of A5.out 0
      have a1 : w5.cell? ⟨w2.heap.size, 1, none⟩ = some (.int .i64 qd) := cells_of A5.out 1
      have a2 : w5.cell? ⟨w2.heap.size, 2, none⟩ = some (.string qn) := cells_of A5.out 2
      have a3 : w5.cell? ⟨w2.heap.size, 3, none⟩ = some (.bool c) := cells_of A5.out 3
      have b0 : w5.cell? ⟨w3.heap.size, 0, none⟩ = some (.slice o3 ys.length c3) := cells_of B5.out 0
      have b1 : w5.cell? ⟨w3.heap.size, 1, none⟩ = some (.int .i64 qd) := cells_of B5.out 1
      have b2 : w5.cell? ⟨w3.heap.size, 2, none⟩ = some (.string qn) := cells_of B5.out 2
      have b3 : w5.cell? ⟨w3.heap.size, 3, none⟩ = some (.bool c) := cells_of B5.out 3
      clear hb m40 m41 m42 m43
      go_wp2_with fail
      refine (same_true _ _ ys qd qn c _ ROW25.out ROW5.out (by have := HY.out; omega)).mono ?_
      rintro e w6 ⟨rfl, hb⟩
      have W6 := Lib.hid (W5.out.trans (hb.mono W5.out.size))
      clear hb a0 a1 a2 a3 b0 b1 b2 b3
      go_wp2
      go_ret
      exact ⟨rfl, W6.out⟩
    · have hn2 : (1000 : Int) < (n : Int) := by omega
      go_enter Try.func4, Try.ntmps4
      go_wp2_with fail
      refine (shown_any _).mono ?_
      rintro e w1 ⟨rfl, hb⟩
      have M1 := Lib.hid (Below.keep hb (q := w.heap.size) (by simp) (heap_new w _))
      have W1 := Lib.hid (HBE.out.trans (hb.mono (by simp)))
      have l1 := lt_of_block M1.out
      have m10 : w1.cell? ⟨w.heap.size, 0, none⟩ = some (.slice ao n cap) := cells_of M1.out 0
      clear hb
      go_wp2
      go_ret
      exact ⟨rfl, W1.out⟩
  · have hs6 : (50000 : Int) < (s.size : Int) := by omega
    go_enter Try.func4, Try.ntmps4
    go_wp2_with fail
    refine (shown_any _).mono ?_
    rintro e w1 ⟨rfl, hb⟩
    have M1 := Lib.hid (Below.keep hb (q := w.heap.size) (by simp) (heap_new w _))
    have W1 := Lib.hid (HBE.out.trans (hb.mono (by simp)))
    clear hb
    go_wp2
    go_ret
    exact ⟨rfl, W1.out⟩
end Go.Proofs.Ytamafgpconfipaa
