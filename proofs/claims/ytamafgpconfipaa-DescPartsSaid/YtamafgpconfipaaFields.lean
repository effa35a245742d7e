/-
  WALK of the law on types and their texts.
-/
import Derived.Test.YtamafgpconfipaaD10
import Derived.Deep.RegionHeld3
set_option linter.unusedVariables false
set_option linter.unusedSimpArgs false
namespace Go.Proofs.Ytamafgpconfipaa
open Go.RowKit

theorem keepc {W w' : World} {B q i : Nat} {v : Value} (hb : Below W.heap.size W w') (hq : q < B) (hB : B ≤ W.heap.size) (h : W.cell? ⟨q, i, none⟩ = some v) : w'.cell? ⟨q, i, none⟩ = some v :=
  (hb.cell (p := ⟨q, i, none⟩) (Nat.lt_of_lt_of_le hq hB)).trans h
theorem fdV_form (x : Option Ty) : ∃ (d : Int) (n : ByteArray) (e : Int), fdV x = .tuple #[.agg #[.int .i64 d, .string n], .int .i64 e] := by
  cases x <;> exact ⟨_, _, _, rfl⟩
theorem elV_form (d : Int) (n : ByteArray) : ∃ (z : Int) (m : ByteArray) (b : Bool), elV d n = .tuple #[.agg #[.int .i64 z, .string m], .bool b] := by
  unfold elV
  split <;> exact ⟨_, _, _, rfl⟩
theorem arV_form (d : Int) (n : ByteArray) : ∃ (z : Int) (m : ByteArray) (b : Bool), arV d n = .tuple #[.agg #[.int .i64 z, .string m], .bool b] := by
  unfold arV
  split <;> exact ⟨_, _, _, rfl⟩
set_option maxRecDepth 1000000 in
set_option maxHeartbeats 6400000 in
theorem fields_walk (s : ByteArray) (d : Int) (nm : ByteArray) (w : World) (hs0 : s.size ≤ maxLen) :
    Calls Try.prog 3 #[.string s, .agg #[.int .i64 d, .string nm]] w fun e w' => e = .returned (.bool true) ∧ Below w.heap.size w w' := by
  have HBE := Lib.hid ((Below.refl w.heap.size w).alloc (Nat.le_refl _) (.cells #[.int .i64 d, .string nm] 23))
  by_cases hsz : s.size ≤ 50000
  · by_cases hnz : nm.size ≤ 50000
    · obtain ⟨fd, fn, fe, hF⟩ := fdV_form (fieldL (L s))
      have CF := fun W => Lib.hid (Field_any s W (by omega))
      have CR := fun W => Lib.hid (refField_any s W (by omega))
      rw [hF] at CF CR
      have CW := fun W => Lib.hid (Write_any d nm W)
      have CV := fun W => Lib.hid (refWrite_any d nm W (by omega))
      generalize wrA d (L nm) = wa at *
      generalize wrE d (L nm) = we at *
      obtain ⟨ed, en, eb, hE⟩ := elV_form d nm
      have CE := fun W => Lib.hid (Element_any d nm W)
      have CG := fun W => Lib.hid (refElement_any d nm W (by omega))
      rw [hE] at CE CG
      obtain ⟨ad, an, ab, hA⟩ := arV_form d nm
      have CA := fun W => Lib.hid (ArrayOf_any d nm W)
      have CB := fun W => Lib.hid (refArrayOf_any d nm W (by omega))
      rw [hA] at CA CB
      have CI := fun W => Lib.hid (IsRef_any d nm W)
      have CJ := fun W => Lib.hid (refIsRef_any d nm W (by omega))
      generalize refT d (L nm) = rb at *
      clear hF hE hA
      go_enter Try.func3, Try.ntmps3
      go_wp2_with fail
      refine (shown_any _).mono ?_
      rintro e w1 ⟨rfl, hb⟩
      have T1 := Lib.hid (Below.keep hb (q := w.heap.size) (by simp) (heap_new w _))
      have B1 := Lib.hid (HBE.out.trans (hb.mono (by simp)))
      have t10 : w1.cell? ⟨w.heap.size, 0, none⟩ = some (.int .i64 d) := cells_of T1.out 0
      have t11 : w1.cell? ⟨w.heap.size, 1, none⟩ = some (.string nm) := cells_of T1.out 1
      clear hb
      go_wp2_with fail
      refine (CF _).out.mono ?_
      rintro e w2 ⟨rfl, hb⟩
      have T2 := Lib.hid (Below.keep hb (lt_of_block T1.out) T1.out)
      have B2 := Lib.hid (B1.out.trans (hb.mono B1.out.size))
      have l2 : w.heap.size < w2.heap.size := lt_of_block T2.out
      have t20 : w2.cell? ⟨w.heap.size, 0, none⟩ = some (.int .i64 d) := cells_of T2.out 0
      have t21 : w2.cell? ⟨w.heap.size, 1, none⟩ = some (.string nm) := cells_of T2.out 1
      clear hb t10 t11
      go_wp2_with fail
      refine (CR _).out.mono ?_
      rintro e w3 ⟨rfl, hb⟩
      have T3 := Lib.hid (Below.keep hb (by have := lt_of_block T2.out; simp; omega) (heap_alloc_lt T2.out))
      have K2_3 := Lib.hid (Below.keep hb (by simp) (heap_new w2 _))
      have B3 := Lib.hid ((B2.out.alloc B2.out.size _).trans (hb.mono (by have := B2.out.size; simp; omega)))
      have l3 : w.heap.size < w3.heap.size := lt_of_block T3.out
      have t30 : w3.cell? ⟨w.heap.size, 0, none⟩ = some (.int .i64 d) := cells_of T3.out 0
      have t31 : w3.cell? ⟨w.heap.size, 1, none⟩ = some (.string nm) := cells_of T3.out 1
      clear hb t20 t21
      go_wp2_with fail
      refine (CW _).out.mono ?_
      rintro e w4 ⟨rfl, hb⟩
      have T4 := Lib.hid (Below.keep hb (by have := lt_of_block T3.out; simp; omega) (heap_alloc_lt T3.out))
      have K2_4 := Lib.hid (Below.keep hb (by have := lt_of_block K2_3.out; simp; omega) (heap_alloc_lt K2_3.out))
      have K3_4 := Lib.hid (Below.keep hb (by simp) (heap_new w3 _))
      have B4 := Lib.hid ((B3.out.alloc B3.out.size _).trans (hb.mono (by have := B3.out.size; simp; omega)))
      have l4 : w.heap.size < w4.heap.size := lt_of_block T4.out
      have t40 : w4.cell? ⟨w.heap.size, 0, none⟩ = some (.int .i64 d) := cells_of T4.out 0
      have t41 : w4.cell? ⟨w.heap.size, 1, none⟩ = some (.string nm) := cells_of T4.out 1
      clear hb t30 t31
      go_wp2_with fail
      refine (CV _).out.mono ?_
      rintro e w5 ⟨rfl, hb⟩
      have T5 := Lib.hid (Below.keep hb (lt_of_block T4.out) T4.out)
      have K2_5 := Lib.hid (Below.keep hb (lt_of_block K2_4.out) K2_4.out)
      have K3_5 := Lib.hid (Below.keep hb (lt_of_block K3_4.out) K3_4.out)
      have B5 := Lib.hid (B4.out.trans (hb.mono B4.out.size))
      have l5 : w.heap.size < w5.heap.size := lt_of_block T5.out
      have t50 : w5.cell? ⟨w.heap.size, 0, none⟩ = some (.int .i64 d) := cells_of T5.out 0
      have t51 : w5.cell? ⟨w.heap.size, 1, none⟩ = some (.string nm) := cells_of T5.out 1
      clear hb t40 t41
      go_wp2_with fail
      refine (CE _).out.mono ?_
      rintro e w6 ⟨rfl, hb⟩
      have T6 := Lib.hid (Below.keep hb (lt_of_block T5.out) T5.out)
      have K2_6 := Lib.hid (Below.keep hb (lt_of_block K2_5.out) K2_5.out)
      have K3_6 := Lib.hid (Below.keep hb (lt_of_block K3_5.out) K3_5.out)
      have B6 := Lib.hid (B5.out.trans (hb.mono B5.out.size))
      have l6 : w.heap.size < w6.heap.size := lt_of_block T6.out
      have t60 : w6.cell? ⟨w.heap.size, 0, none⟩ = some (.int .i64 d) := cells_of T6.out 0
      have t61 : w6.cell? ⟨w.heap.size, 1, none⟩ = some (.string nm) := cells_of T6.out 1
      clear hb t50 t51
      go_wp2_with fail
      refine (CG _).out.mono ?_
      rintro e w7 ⟨rfl, hb⟩
      have T7 := Lib.hid (Below.keep hb (by have := lt_of_block T6.out; simp; omega) (heap_alloc_lt T6.out))
      have K2_7 := Lib.hid (Below.keep hb (by have := lt_of_block K2_6.out; simp; omega) (heap_alloc_lt K2_6.out))
      have K3_7 := Lib.hid (Below.keep hb (by have := lt_of_block K3_6.out; simp; omega) (heap_alloc_lt K3_6.out))
      have K6_7 := Lib.hid (Below.keep hb (by simp) (heap_new w6 _))
      have B7 := Lib.hid ((B6.out.alloc B6.out.size _).trans (hb.mono (by have := B6.out.size; simp; omega)))
      have l7 : w.heap.size < w7.heap.size := lt_of_block T7.out
      have t70 : w7.cell? ⟨w.heap.size, 0, none⟩ = some (.int .i64 d) := cells_of T7.out 0
      have t71 : w7.cell? ⟨w.heap.size, 1, none⟩ = some (.string nm) := cells_of T7.out 1
      clear hb t60 t61
      go_wp2_with fail
      refine (CA _).out.mono ?_
      rintro e w8 ⟨rfl, hb⟩
      have T8 := Lib.hid (Below.keep hb (by have := lt_of_block T7.out; simp; omega) (heap_alloc_lt T7.out))
      have K2_8 := Lib.hid (Below.keep hb (by have := lt_of_block K2_7.out; simp; omega) (heap_alloc_lt K2_7.out))
      have K3_8 := Lib.hid (Below.keep hb (by have := lt_of_block K3_7.out; simp; omega) (heap_alloc_lt K3_7.out))
      have K6_8 := Lib.hid (Below.keep hb (by have := lt_of_block K6_7.out; simp; omega) (heap_alloc_lt K6_7.out))
      have K7_8 := Lib.hid (Below.keep hb (by simp) (heap_new w7 _))
      have B8 := Lib.hid ((B7.out.alloc B7.out.size _).trans (hb.mono (by have := B7.out.size; simp; omega)))
      have l8 : w.heap.size < w8.heap.size := lt_of_block T8.out
      have t80 : w8.cell? ⟨w.heap.size, 0, none⟩ = some (.int .i64 d) := cells_of T8.out 0
      have t81 : w8.cell? ⟨w.heap.size, 1, none⟩ = some (.string nm) := cells_of T8.out 1
      clear hb t70 t71
      go_wp2_with fail
      refine (CB _).out.mono ?_
      rintro e w9 ⟨rfl, hb⟩
      have T9 := Lib.hid (Below.keep hb (by have := lt_of_block T8.out; simp; omega) (heap_alloc_lt T8.out))
      have K2_9 := Lib.hid (Below.keep hb (by have := lt_of_block K2_8.out; simp; omega) (heap_alloc_lt K2_8.out))
      have K3_9 := Lib.hid (Below.keep hb (by have := lt_of_block K3_8.out; simp; omega) (heap_alloc_lt K3_8.out))
      have K6_9 := Lib.hid (Below.keep hb (by have := lt_of_block K6_8.out; simp; omega) (heap_alloc_lt K6_8.out))
      have K7_9 := Lib.hid (Below.keep hb (by have := lt_of_block K7_8.out; simp; omega) (heap_alloc_lt K7_8.out))
      have K8_9 := Lib.hid (Below.keep hb (by simp) (heap_new w8 _))
      have B9 := Lib.hid ((B8.out.alloc B8.out.size _).trans (hb.mono (by have := B8.out.size; simp; omega)))
      have l9 : w.heap.size < w9.heap.size := lt_of_block T9.out
      have t90 : w9.cell? ⟨w.heap.size, 0, none⟩ = some (.int .i64 d) := cells_of T9.out 0
      have t91 : w9.cell? ⟨w.heap.size, 1, none⟩ = some (.string nm) := cells_of T9.out 1
      clear hb t80 t81
      go_wp2_with fail
      have TE := heap_alloc_lt (o := .cells #[.int .i64 ad, .string an] 23) T9.out
      have E2 := heap_alloc_lt (o := .cells #[.int .i64 ad, .string an] 23) K2_9.out
      have E3 := heap_alloc_lt (o := .cells #[.int .i64 ad, .string an] 23) K3_9.out
      have E6 := heap_alloc_lt (o := .cells #[.int .i64 ad, .string an] 23) K6_9.out
      have E7 := heap_alloc_lt (o := .cells #[.int .i64 ad, .string an] 23) K7_9.out
      have E8 := heap_alloc_lt (o := .cells #[.int .i64 ad, .string an] 23) K8_9.out
      have E9 := heap_new w9 (.cells #[.int .i64 ad, .string an] 23)
      have BE := B9.out.alloc B9.out.size (.cells #[.int .i64 ad, .string an] 23)
      generalize w9.alloc (.cells #[.int .i64 ad, .string an] 23) = wz at *
      have zt : w.heap.size < wz.heap.size := lt_of_block TE
      have tz0 : wz.cell? ⟨w.heap.size, 0, none⟩ = some (.int .i64 d) := cells_of TE 0
      have tz1 : wz.cell? ⟨w.heap.size, 1, none⟩ = some (.string nm) := cells_of TE 1
      have zb2 : w2.heap.size < wz.heap.size := lt_of_block E2
      have b2z0 : wz.cell? ⟨w2.heap.size, 0, none⟩ = some (.int .i64 fd) := cells_of E2 0
      have b2z1 : wz.cell? ⟨w2.heap.size, 1, none⟩ = some (.string fn) := cells_of E2 1
      have zb3 : w3.heap.size < wz.heap.size := lt_of_block E3
      have b3z0 : wz.cell? ⟨w3.heap.size, 0, none⟩ = some (.int .i64 fd) := cells_of E3 0
      have b3z1 : wz.cell? ⟨w3.heap.size, 1, none⟩ = some (.string fn) := cells_of E3 1
      have zb6 : w6.heap.size < wz.heap.size := lt_of_block E6
      have b6z0 : wz.cell? ⟨w6.heap.size, 0, none⟩ = some (.int .i64 ed) := cells_of E6 0
      have b6z1 : wz.cell? ⟨w6.heap.size, 1, none⟩ = some (.string en) := cells_of E6 1
      have zb7 : w7.heap.size < wz.heap.size := lt_of_block E7
      have b7z0 : wz.cell? ⟨w7.heap.size, 0, none⟩ = some (.int .i64 ed) := cells_of E7 0
      have b7z1 : wz.cell? ⟨w7.heap.size, 1, none⟩ = some (.string en) := cells_of E7 1
      have zb8 : w8.heap.size < wz.heap.size := lt_of_block E8
      have b8z0 : wz.cell? ⟨w8.heap.size, 0, none⟩ = some (.int .i64 ad) := cells_of E8 0
      have b8z1 : wz.cell? ⟨w8.heap.size, 1, none⟩ = some (.string an) := cells_of E8 1
      have zb9 : w9.heap.size < wz.heap.size := lt_of_block E9
      have b9z0 : wz.cell? ⟨w9.heap.size, 0, none⟩ = some (.int .i64 ad) := cells_of E9 0
      have b9z1 : wz.cell? ⟨w9.heap.size, 1, none⟩ = some (.string an) := cells_of E9 1
      clear TE E2 E3 E6 E7 E8 E9 T1 T2 T3 T4 T5 T6 T7 T8 T9 t90 t91
      go_region_held3 (fun w' => w'.cell? ⟨w.heap.size, 0, none⟩ = some (.int .i64 d) ∧ w'.cell? ⟨w.heap.size, 1, none⟩ = some (.string nm) ∧ w'.cell? ⟨w2.heap.size, 0, none⟩ = some (.int .i64 fd) ∧ w'.cell? ⟨w2.heap.size, 1, none⟩ = some (.string fn) ∧ w'.cell? ⟨w3.heap.size, 0, none⟩ = some (.int .i64 fd) ∧ w'.cell? ⟨w3.heap.size, 1, none⟩ = some (.string fn) ∧ w'.cell? ⟨w6.heap.size, 0, none⟩ = some (.int .i64 ed) ∧ w'.cell? ⟨w6.heap.size, 1, none⟩ = some (.string en) ∧ w'.cell? ⟨w7.heap.size, 0, none⟩ = some (.int .i64 ed) ∧ w'.cell? ⟨w7.heap.size, 1, none⟩ = some (.string en) ∧ w'.cell? ⟨w8.heap.size, 0, none⟩ = some (.int .i64 ad) ∧ w'.cell? ⟨w8.heap.size, 1, none⟩ = some (.string an) ∧ w'.cell? ⟨w9.heap.size, 0, none⟩ = some (.int .i64 ad) ∧ w'.cell? ⟨w9.heap.size, 1, none⟩ = some (.string an) ∧ wz.heap.size ≤ w'.heap.size ∧ Below w.heap.size w w')
        (first
          | exact ⟨tz0, tz1, b2z0, b2z1, b3z0, b3z1, b6z0, b6z1, b7z0, b7z1, b8z0, b8z1, b9z0, b9z1, Nat.le_refl _, BE.drew⟩
          | (go_split_ands
             refine ⟨?_, ?_, ?_, ?_, ?_, ?_, ?_, ?_, ?_, ?_, ?_, ?_, ?_, ?_, ?_, ?_⟩
             all_goals first
               | assumption
               | exact keepc hb (B := wz.heap.size) (by assumption) (by assumption) (by assumption)
               | exact Nat.le_trans (by assumption) hb.size
               | exact Below.link (by assumption) hb))
        (first
          | (go_at_call 18; refine (CI _).out.mono ?_; rintro e wi ⟨rfl, hb⟩)
          | (go_at_call 19; refine (CJ _).out.mono ?_; rintro e wi ⟨rfl, hb⟩))
      all_goals
        go_split_ands
        go_wp2
        go_ret
        exact ⟨rfl, by assumption⟩
    · have h5 : (50000 : Int) < (nm.size : Int) := by omega
      have h6 : (s.size : Int) ≤ 50000 := by omega
      go_enter Try.func3, Try.ntmps3
      go_wp2_with fail
      refine (shown_any _).mono ?_
      rintro e w1 ⟨rfl, hb⟩
      have T1 := Below.keep hb (q := w.heap.size) (by simp) (heap_new w _)
      have B1 := Lib.hid (HBE.out.trans (hb.mono (by simp)))
      have t11 : w1.cell? ⟨w.heap.size, 1, none⟩ = some (.string nm) := cells_of T1 1
      clear T1 hb
      go_wp2
      go_ret
      exact ⟨rfl, B1.out⟩
  · have h5 : (50000 : Int) < (s.size : Int) := by omega
    go_enter Try.func3, Try.ntmps3
    go_wp2_with fail
    refine (shown_any _).mono ?_
    rintro e w1 ⟨rfl, hb⟩
    have B1 := Lib.hid (HBE.out.trans (hb.mono (by simp)))
    clear hb
    go_wp2
    go_ret
    exact ⟨rfl, B1.out⟩
end Go.Proofs.Ytamafgpconfipaa
