/-
  WALK of the law on cuts.
-/
import Derived.Test.YtamafgpconfipaaD10
set_option linter.unusedVariables false
set_option linter.unusedSimpArgs false
namespace Go.Proofs.Ytamafgpconfipaa
open Go.RowKit

set_option maxRecDepth 1000000 in
set_option maxHeartbeats 6400000 in
theorem cuts_walk (d : Int) (nm : ByteArray) (c : Int) (more : ByteArray) (w : World) (hc1 : -9223372036854775808 ≤ c) (hc2 : c ≤ 9223372036854775807) (hm : more.size ≤ 1000000000000000000) :
    Calls Try.prog 7 #[.agg #[.int .i64 d, .string nm], .int .i64 c, .string more] w fun e w' => e = .returned (.bool true) ∧ Below w.heap.size w w' := by
  have hbe := (Below.refl w.heap.size w).alloc (Nat.le_refl _) (.cells #[.int .i64 d, .string nm] 23)
  have HBE := Lib.hid hbe
  clear hbe
  have HW := fun W => Lib.hid (Write_any d nm W)
  cases hb : okT d (L nm) with
  | false =>
    rw [(wr_no hb).1, (wr_no hb).2] at HW
    clear hb
    go_enter Try.func7, Try.ntmps7
    go_wp2_with fail
    refine (shown_any _).mono ?_
    rintro e w1 ⟨rfl, hb1⟩
    have T1 := Below.keep hb1 (q := w.heap.size) (by simp) (heap_new w _)
    have HB1 := Lib.hid (HBE.out.trans (hb1.mono (by simp)))
    have t0 : w1.cell? ⟨w.heap.size, 0, none⟩ = some (.int .i64 d) := cells_of T1 0
    have t1 : w1.cell? ⟨w.heap.size, 1, none⟩ = some (.string nm) := cells_of T1 1
    clear T1 hb1
    go_wp2_with fail
    refine (HW _).out.mono ?_
    rintro e w2 ⟨rfl, hb2⟩
    have HB2 := Lib.hid (HB1.out.trans (hb2.mono HB1.out.size))
    go_wp2
    go_ret
    exact ⟨rfl, HB2.out⟩
  | true =>
    rw [(wr_ok hb).1, (wr_ok hb).2] at HW
    obtain ⟨hok, _⟩ := okT_okP hb
    obtain ⟨p, hp⟩ : ∃ p, (d.toNat, L nm) = p := ⟨_, rfl⟩
    rw [hp] at HW hok
    obtain ⟨s, hs⟩ : ∃ s, mkB (descT p) = s := ⟨_, rfl⟩
    rw [hs] at HW
    have hLs : L s = descT p := by rw [← hs]; rfl
    have hsz : s.size = tlen p := by rw [size_L, hLs]; rfl
    have h1 : 1 ≤ s.size := by rw [hsz]; exact tlen_pos p
    have h2 : s.size ≤ 262 := by rw [hsz]; exact tlen_le hok
    have HLS := Lib.hid hLs
    have HOK := Lib.hid hok
    have HSZ := Lib.hid hsz
    clear hb hp hs hLs hsz hok
    have hn0 : ((s.size : Int) == 0) = false := by rw [beq_eq_false_iff_ne]; omega
    obtain ⟨z, hz⟩ : ∃ z, c.tmod (s.size : Int) = z := ⟨_, rfl⟩
    have hz1 : z < (s.size : Int) := by rw [← hz]; exact Int.tmod_lt_of_pos c (by omega)
    have hz2 : -(s.size : Int) < z := by rw [← hz]; exact Int.lt_tmod_of_pos c (by omega)
    have hk : ∃ k : Nat, k < s.size ∧ ((z < 0 ∧ wrap64 (-z) = (k : Int)) ∨ (0 ≤ z ∧ z = (k : Int))) := by
      by_cases h0 : z < 0
      · exact ⟨(-z).toNat, by omega, .inl ⟨h0, by unfold wrap64; omega⟩⟩
      · exact ⟨z.toNat, by omega, .inr ⟨by omega, by omega⟩⟩
    obtain ⟨k, hks, hkz⟩ := hk
    have hxk : L (s.extract 0 k) = (descT p).take k := by rw [L_extract, HLS.out]; rfl
    have hF1 : fieldL (L (s.extract 0 k)) = none := by rw [hxk]; exact fieldL_cut HOK.out k (by rw [← HSZ.out]; exact hks)
    have C1 := fun W => Lib.hid (Field_at (s.extract 0 k) W none (.tuple #[.agg #[.int .i64 0, .string ⟨#[]⟩], .int .i64 9]) (by rw [size_L, hxk, List.length_take]; have := HSZ.out; unfold tlen at this; omega) hF1 rfl)
    have hsm : (s ++ more).size ≤ 9223372036854775807 := by rw [ByteArray.size_append]; omega
    have hmore : more.toList.isEmpty = true ∨ (more.toList.isEmpty = false ∧ fieldL (L (s ++ more)) = none) := by
      by_cases hm0 : more.size = 0
      · exact .inl (emp_of0 hm0)
      · refine .inr ⟨emp_ofpos (by omega), ?_⟩
        rw [L_append, HLS.out]
        exact fieldL_more HOK.out _ (sizepos_ne (by omega))
    obtain ⟨vf, hvf⟩ : ∃ x, fieldL (L (s ++ more)) = x := ⟨_, rfl⟩
    have C2 := fun W => Lib.hid (Field_at (s ++ more) W vf _ hsm hvf rfl)
    rw [hvf] at hmore
    obtain ⟨qd, qn, qe, hq, hq9⟩ : ∃ (qd : Int) (qn : ByteArray) (qe : Int), fdV vf = .tuple #[.agg #[.int .i64 qd, .string qn], .int .i64 qe] ∧ (vf = none → qe = 9) := by
      cases vf with
      | none => exact ⟨_, _, _, rfl, fun _ => rfl⟩
      | some q => exact ⟨_, _, _, rfl, fun h => by simp at h⟩
    rw [hq] at C2
    have hmo : (more.toList.isEmpty = true) ∨ (more.toList.isEmpty = false ∧ qe = 9) := hmore.imp id (fun h => ⟨h.1, hq9 h.2⟩)
    have HMO := Lib.hid hmo
    have HWZ := Lib.hid hkz
    clear hxk hF1 hvf hsm hmore hq hq9 hmo hkz
    have hkz := HWZ.out
    rcases hkz with ⟨hneg, hwz⟩ | ⟨hpos, hwz⟩
    · have hkk : 0 ≤ (k : Int) := by omega
      rw [← hz] at hneg hwz
      clear hz1 hz2 hz HWZ
      go_enter Try.func7, Try.ntmps7
      go_wp2_with fail
      refine (shown_any _).mono ?_
      rintro e w1 ⟨rfl, hb1⟩
      have T1 := Below.keep hb1 (q := w.heap.size) (by simp) (heap_new w _)
      have HB1 := Lib.hid (HBE.out.trans (hb1.mono (by simp)))
      have t0 : w1.cell? ⟨w.heap.size, 0, none⟩ = some (.int .i64 d) := cells_of T1 0
      have t1 : w1.cell? ⟨w.heap.size, 1, none⟩ = some (.string nm) := cells_of T1 1
      clear T1 hb1
      go_wp2_with fail
      refine (HW _).out.mono ?_
      rintro e w2 ⟨rfl, hb2⟩
      have HB2 := Lib.hid (HB1.out.trans (hb2.mono HB1.out.size))
      clear hb2 t0 t1
      go_wp2_with fail
      refine (C1 _).out.mono ?_
      rintro e w3 ⟨rfl, hb3⟩
      have HB3 := Lib.hid (HB2.out.trans (hb3.mono HB2.out.size))
      have z3 := HB3.out.size
      clear hb3
      go_wp2_with fail
      refine (C2 _).out.mono ?_
      rintro e w4 ⟨rfl, hb4⟩
      have HB4 := Lib.hid ((HB3.out.alloc z3 _).trans (hb4.mono (by simp; omega)))
      have z4 := HB4.out.size
      clear hb4 z3
      rcases HMO.out with he | ⟨he, rfl⟩
      all_goals
        go_wp2
        all_goals
          go_ret
          exact ⟨rfl, HB4.out.alloc z4 _⟩
    · have hkk : 0 ≤ (k : Int) := by omega
      rw [← hz] at hpos hwz
      clear hz1 hz2 hz HWZ
      go_enter Try.func7, Try.ntmps7
      go_wp2_with fail
      refine (shown_any _).mono ?_
      rintro e w1 ⟨rfl, hb1⟩
      have T1 := Below.keep hb1 (q := w.heap.size) (by simp) (heap_new w _)
      have HB1 := Lib.hid (HBE.out.trans (hb1.mono (by simp)))
      have t0 : w1.cell? ⟨w.heap.size, 0, none⟩ = some (.int .i64 d) := cells_of T1 0
      have t1 : w1.cell? ⟨w.heap.size, 1, none⟩ = some (.string nm) := cells_of T1 1
      clear T1 hb1
      go_wp2_with fail
      refine (HW _).out.mono ?_
      rintro e w2 ⟨rfl, hb2⟩
      have HB2 := Lib.hid (HB1.out.trans (hb2.mono HB1.out.size))
      clear hb2 t0 t1
      go_wp2_with fail
      refine (C1 _).out.mono ?_
      rintro e w3 ⟨rfl, hb3⟩
      have HB3 := Lib.hid (HB2.out.trans (hb3.mono HB2.out.size))
      have z3 := HB3.out.size
      clear hb3
      go_wp2_with fail
      refine (C2 _).out.mono ?_
      rintro e w4 ⟨rfl, hb4⟩
      have HB4 := Lib.hid ((HB3.out.alloc z3 _).trans (hb4.mono (by simp; omega)))
      have z4 := HB4.out.size
      clear hb4 z3
      rcases HMO.out with he | ⟨he, rfl⟩
      all_goals
        go_wp2
        all_goals
          go_ret
          exact ⟨rfl, HB4.out.alloc z4 _⟩
end Go.Proofs.Ytamafgpconfipaa
