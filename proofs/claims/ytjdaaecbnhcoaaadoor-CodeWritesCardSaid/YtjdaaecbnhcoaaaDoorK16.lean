/-
  WALK: what the document says is wrong with an instruction, and its size.
-/
import Derived.Test.YtjdaaecbnhcoaaaDoorK14
import Derived.Deep.DeepCutAuto
import Derived.Deep.CutBlock
import Derived.Deep.LoopGhost
set_option linter.unusedVariables false
set_option linter.unusedSimpArgs false
namespace Go.Proofs.YtjdaaecbnhcoaaaDoor
open Go.RowKit

theorem formP_115 (op : Int) : formP op = 115 ↔ op = 30 := by
  unfold formP
  repeat' split
  all_goals omega
theorem keyB_0 {f : Int} {ks : List Int} (h : f ≠ 115) : keyB f ks = decide (ks.length = 0) := by unfold keyB; rw [if_neg h]
theorem keyB_115 {ks : List Int} : keyB 115 ks = (decide (ks.length ≤ 1022) && ks.all (fun k => decide (0 ≤ k ∧ k ≤ 65535))) := by unfold keyB; rw [if_pos rfl]
theorem within_r (n m : Int) (w : World) : Calls Tryd.prog 50 #[.int .i64 n, .int .i64 m] w fun e w' => e = .returned (.bool (decide (0 ≤ n ∧ n ≤ m))) ∧ w = w' := within_any n m w
/-- What is answered. -/
def RightE (w : World) (x : In) (pc : Int) (e : Ending) (w' : World) : Prop :=
  e = .returned (.tuple #[.int .i64 (if errP x pc = 0 then (widP x : Int) else 0), .int .i64 (errP x pc)]) ∧ Below w.heap.size w w'
set_option maxRecDepth 1000000 in
set_option maxHeartbeats 12800000 in
theorem right_any (B : Nat) (x : In) (Ak At : Option Addr) (ck ct : Nat) (pc : Int) (w : World) (hk : x.keys.length ≤ 1000000000000000) (hr : IRow B w (.slice Ak x.keys.length ck) x.keys) (hB : B ≤ w.heap.size) :
    Calls Tryd.prog 39 #[.agg #[.int .i64 x.pc, .int .i64 x.op, .int .i64 x.n, .slice Ak x.keys.length ck, .slice At x.to.length ct], .int .i64 pc] w (RightE w x pc) := by
  obtain ⟨f, hf⟩ : ∃ f, formP x.op = f := ⟨_, rfl⟩
  have HFO := fun W => Lib.hid (refForm_any x.op W)
  rw [hf] at HFO
  have HF := Lib.hid hf
  have HR := Lib.hid hr
  have B0 := Lib.hid ((Below.refl w.heap.size w).alloc (Nat.le_refl _) (.cells #[.int .i64 x.pc, .int .i64 x.op, .int .i64 x.n, .slice Ak x.keys.length ck, .slice At x.to.length ct] 43))
  clear hr
  by_cases hf0 : f = 0
  · have HE : errP x pc = 11 := by unfold errP; rw [HF.out, if_pos hf0]
    have HEE := Lib.hid HE
    subst hf0
    clear HE hf
    go_enter Tryd.func39, Tryd.ntmps39
    go_wp2_with fail
    refine (HFO _).out.mono ?_
    rintro e w3 ⟨rfl, rfl⟩
    go_wp2
    go_ret2
    unfold RightE
    rw [HEE.out]
    exact ⟨rfl, B0.out⟩
  · have HE : errP x pc = if goodB x pc = true then 0 else 1 := by unfold errP; rw [HF.out, if_neg hf0]
    have HEE := Lib.hid HE
    have hfi := formP_in x.op
    rw [hf] at hfi
    obtain ⟨mx, hmx⟩ : ∃ m, maxP f = m := ⟨_, rfl⟩
    have HMX := Lib.hid hmx
    obtain ⟨j, hj⟩ : ∃ j, jmpP x = j := ⟨_, rfl⟩
    have HJX := Lib.hid hj
    obtain ⟨wd, hwd⟩ : ∃ j, widP x = j := ⟨_, rfl⟩
    have HWD := Lib.hid hwd
    have h30 := (formP_115 x.op)
    rw [hf] at h30
    have H30 := Lib.hid h30
    have HG := Lib.hid (show goodB x pc = (decide (0 ≤ x.n) && decide (x.n ≤ mx) && decide (x.pc = pc) && decide (x.to.length = j) && keyB f x.keys) by unfold goodB; rw [HF.out, HMX.out, HJX.out])
    clear hmx hj hwd hf HE h30
    have HF0 := Lib.hid hf0
    clear hf0
    obtain ⟨W0, hW0⟩ : ∃ W0, W0 = w.alloc (.cells #[.int .i64 x.pc, .int .i64 x.op, .int .i64 x.n, .slice Ak x.keys.length ck, .slice At x.to.length ct] 43) := ⟨_, rfl⟩
    have M : W0.heap[w.heap.size]? = some (.cells #[.int .i64 x.pc, .int .i64 x.op, .int .i64 x.n, .slice Ak x.keys.length ck, .slice At x.to.length ct] 43 (0, 0)) := by rw [hW0]; exact heap_new _ _
    have c0 := cells_of M 0
    have c1 := cells_of M 1
    have c2 := cells_of M 2
    have c3 := cells_of M 3
    have c4 := cells_of M 4
    simp at c0 c1 c2 c3 c4
    have hz : w.heap.size < W0.heap.size := by rw [hW0]; simp
    rw [← hW0] at B0
    have HW0 := Lib.hid hW0
    have HR0 := Lib.hid (HR.out.below B0.out hB)
    clear hW0 M
    go_enter Tryd.func39, Tryd.ntmps39
    go_wp2_with fail
    refine (HFO _).out.mono ?_
    rintro e w3 ⟨rfl, rfl⟩
    rw [← HW0.out]
    go_upto_block 0 with fail
    go_cut [6, 7, 8, 17] (fun a b c _ wx => a = .int .i64 wd ∧ b = .int .i64 j ∧ c = .int .i64 mx ∧ W0 = wx)
    case first =>
      rcases hfi with rfl | rfl | rfl | rfl | rfl | rfl
      · exact absurd rfl HF0.out
      all_goals
        go_wp2
        go_meet
        refine ⟨?_, ?_, ?_, rfl⟩
        · rw [← HWD.out]; unfold widP; rw [HF.out]; first | rfl | (simp; done) | (simp; omega)
        · rw [← HJX.out]; unfold jmpP; rw [HF.out]; first | rfl | (simp; done) | (simp; omega)
        · rw [← HMX.out]; rfl
    case rest =>
      obtain ⟨rfl, rfl, rfl, rfl⟩ := hcut
      have bad : goodB x pc = false → RightE w x pc (.returned (.tuple #[.int .i64 0, .int .i64 1])) W0 := fun h => by
        unfold RightE
        rw [HEE.out, h]
        exact ⟨rfl, B0.out⟩
      have BAD := Lib.hid bad
      have ok : goodB x pc = true → RightE w x pc (.returned (.tuple #[.int .i64 wd, .int .i64 0])) W0 := fun h => by
        unfold RightE
        rw [HEE.out, h, HWD.out]
        exact ⟨rfl, B0.out⟩
      have OK := Lib.hid ok
      clear bad ok
      by_cases h1 : 0 ≤ x.n ∧ x.n ≤ mx
      · have d1 : decide (0 ≤ x.n ∧ x.n ≤ mx) = true := by simpa using h1
        have HWI := fun W => Lib.hid (within_any x.n mx W)
        rw [d1] at HWI
        have H1 := Lib.hid h1
        clear h1 d1
        by_cases h2 : x.to.length = j
        · have e2 : ((x.to.length : Int) == (j : Int)) = true := by rw [h2]; simp
          have e2' : ((x.to.length : Int) != (j : Int)) = false := by rw [h2]; simp
          have H2 := Lib.hid h2
          clear h2
          have loop : ∀ (hks : x.keys.length ≤ 1022) (hpc : x.pc = pc) (hfk : f ≠ 115 → x.keys.length = 0), True := fun _ _ _ => trivial
          clear loop
          by_cases h3 : x.op = 30
          · have e3 : (x.op == 30) = true := by simpa using h3
            have e3' : (x.op != 30) = false := by simpa using h3
            have H3 := Lib.hid (H30.out.2 h3)
            clear h3
            by_cases h4 : x.keys.length ≤ 1022
            · have d4 : decide ((1022 : Int) < (x.keys.length : Int)) = false := by simp; omega
              have h4' : (x.keys.length : Int) ≤ 1022 := by omega
              have H4 := Lib.hid h4
              clear h4
              by_cases h5 : x.pc = pc
              · have e5 : (x.pc == pc) = true := by simpa using h5
                have e5' : (x.pc != pc) = false := by simpa using h5
                have H5 := Lib.hid h5
                clear h5
                go_wp2_with fail
                refine (HWI _).out.mono ?_
                rintro e w3 ⟨rfl, rfl⟩
                go_wp2
                go_loop [11, 10] (fun i _ => ∃ k : Nat, k ≤ x.keys.length ∧ i = .int .i64 k ∧ ∀ (m : Nat) (t : Int), m < k → x.keys[m]? = some t → 0 ≤ t ∧ t ≤ 65535) (fun i _ => x.keys.length - (intOf i).toNat)
                case atStart => exact ⟨0, Nat.zero_le _, rfl, fun m t hm => by omega⟩
                case round =>
                  obtain ⟨k, hkl, rfl, hok⟩ := hrel
                  have HOK := Lib.hid hok
                  clear hok
                  by_cases hlt : k < x.keys.length
                  · have hx := List.getElem?_eq_getElem hlt
                    generalize x.keys[k] = t at hx
                    obtain ⟨b, o, e1, hbB, t0⟩ := HR0.out.at_ hx
                    have HX := Lib.hid hx
                    subst e1
                    clear hx
                    by_cases ht : 0 ≤ t ∧ t ≤ 65535
                    · have dt : decide (0 ≤ t ∧ t ≤ 65535) = true := by simpa using ht
                      have HWT := fun W => Lib.hid (within_any t 65535 W)
                      rw [dt] at HWT
                      have HT := Lib.hid ht
                      clear ht dt
                      go_wp2_with fail
                      refine (HWT _).out.mono ?_
                      rintro e w3 ⟨rfl, rfl⟩
                      go_wp2
                      go_round
                      case rel =>
                        refine ⟨k + 1, by omega, by go_num, fun m u hm hu => ?_⟩
                        rcases Nat.lt_or_eq_of_le (Nat.le_of_lt_succ hm) with h | rfl
                        · exact HOK.out m u h hu
                        · rw [HX.out] at hu; cases hu; exact HT.out
                      case measure => simp [intOf]; omega
                    · have dt : decide (0 ≤ t ∧ t ≤ 65535) = false := by simpa using ht
                      have HWT := fun W => Lib.hid (within_any t 65535 W)
                      rw [dt] at HWT
                      have HGB := Lib.hid (show goodB x pc = false by
                        rw [HG.out, H3.out, keyB_115]
                        have : x.keys.all (fun k => decide (0 ≤ k ∧ k ≤ 65535)) = false := by rw [List.all_eq_false]; exact ⟨t, List.mem_of_getElem? HX.out, by simpa using ht⟩
                        rw [this]
                        simp)
                      clear ht dt
                      go_wp2_with fail
                      refine (HWT _).out.mono ?_
                      rintro e w3 ⟨rfl, rfl⟩
                      go_wp2
                      go_ret2
                      exact BAD.out HGB.out
                  · have HGT := Lib.hid (show goodB x pc = true by
                      rw [HG.out, H3.out, keyB_115]
                      have : x.keys.all (fun k => decide (0 ≤ k ∧ k ≤ 65535)) = true := by
                        rw [List.all_eq_true]
                        intro t ht
                        obtain ⟨m, hm⟩ := List.mem_iff_getElem?.1 ht
                        simpa using HOK.out m t (by have := (List.getElem?_eq_some_iff.1 hm).1; omega) hm
                      rw [this]
                      have := H1.out
                      simp [this.1, this.2, H5.out, H2.out, H4.out])
                    go_wp2
                    go_ret2
                    exact OK.out HGT.out
              · have e5 : (x.pc == pc) = false := by simpa using h5
                have e5' : (x.pc != pc) = true := by simpa using h5
                have HGB := Lib.hid (show goodB x pc = false by rw [HG.out]; simp [h5])
                clear h5
                go_wp2_with fail
                refine (HWI _).out.mono ?_
                rintro e w3 ⟨rfl, rfl⟩
                go_wp2
                go_ret2
                exact BAD.out HGB.out
            · have d4 : decide ((1022 : Int) < (x.keys.length : Int)) = true := by simp; omega
              have HGB := Lib.hid (show goodB x pc = false by rw [HG.out, H3.out, keyB_115]; simp [h4])
              have h4' : (1022 : Int) < (x.keys.length : Int) := by omega
              clear h4
              go_wp2_with fail
              refine (HWI _).out.mono ?_
              rintro e w3 ⟨rfl, rfl⟩
              go_wp2
              go_ret2
              exact BAD.out HGB.out
          · have e3 : (x.op == 30) = false := by simpa using h3
            have e3' : (x.op != 30) = true := by simpa using h3
            have hn := fun h => h3 (H30.out.1 h)
            have H3 := Lib.hid (keyB_0 (ks := x.keys) hn)
            clear h3 hn
            by_cases h4 : x.keys.length = 0
            · have d4 : decide ((0 : Int) < (x.keys.length : Int)) = false := by simp; exact List.length_eq_zero_iff.1 h4
              have d4' : decide ((1022 : Int) < (x.keys.length : Int)) = false := by simp; omega
              have hnil : x.keys = [] := List.length_eq_zero_iff.1 h4
              have h4' : (x.keys.length : Int) < 1 := by omega
              have H4 := Lib.hid h4
              clear h4
              by_cases h5 : x.pc = pc
              · have e5 : (x.pc == pc) = true := by simpa using h5
                have e5' : (x.pc != pc) = false := by simpa using h5
                have HGT := Lib.hid (show goodB x pc = true by
                  rw [HG.out, H3.out]
                  have := H1.out
                  simp only [this.1, this.2, h5, H2.out, H4.out]
                  rfl)
                clear h5
                go_wp2_with fail
                refine (HWI _).out.mono ?_
                rintro e w3 ⟨rfl, rfl⟩
                go_wp2
                go_loop [11, 10] (fun i _ => ∃ k : Nat, k ≤ 0 ∧ i = .int .i64 k) (fun i _ => 1 - (intOf i).toNat)
                case atStart => exact ⟨0, Nat.le_refl _, rfl⟩
                case round =>
                  obtain ⟨k, hk0, rfl⟩ := hrel
                  obtain rfl : k = 0 := by omega
                  go_wp2
                  go_ret2
                  exact OK.out HGT.out
              · have e5 : (x.pc == pc) = false := by simpa using h5
                have e5' : (x.pc != pc) = true := by simpa using h5
                have HGB := Lib.hid (show goodB x pc = false by rw [HG.out]; simp [h5])
                clear h5
                go_wp2_with fail
                refine (HWI _).out.mono ?_
                rintro e w3 ⟨rfl, rfl⟩
                go_wp2
                go_ret2
                exact BAD.out HGB.out
            · have hnil : ¬ x.keys = [] := fun h => h4 (by rw [h]; rfl)
              have d4 : decide ((0 : Int) < (x.keys.length : Int)) = true := by simp; exact List.length_pos_iff.2 hnil
              have HGB := Lib.hid (show goodB x pc = false by rw [HG.out, H3.out]; simp [h4])
              have h4' : (0 : Int) < (x.keys.length : Int) := by omega
              clear h4
              go_wp2_with fail
              refine (HWI _).out.mono ?_
              rintro e w3 ⟨rfl, rfl⟩
              go_wp2
              go_ret2
              exact BAD.out HGB.out
        · have e2 : ((x.to.length : Int) == (j : Int)) = false := by simp; omega
          have e2' : ((x.to.length : Int) != (j : Int)) = true := by simp; omega
          have HGB := Lib.hid (show goodB x pc = false by rw [HG.out]; simp [h2])
          clear h2
          go_wp2_with fail
          refine (HWI _).out.mono ?_
          rintro e w3 ⟨rfl, rfl⟩
          go_wp2
          go_ret2
          exact BAD.out HGB.out
      · have d1 : decide (0 ≤ x.n ∧ x.n ≤ mx) = false := by simpa using h1
        have HWI := fun W => Lib.hid (within_any x.n mx W)
        rw [d1] at HWI
        have HGB := Lib.hid (show goodB x pc = false by
          rw [HG.out]
          by_cases h : 0 ≤ x.n
          · have : ¬ x.n ≤ mx := fun h' => h1 ⟨h, h'⟩
            simp [this]
          · simp [h])
        clear h1 d1
        go_wp2_with fail
        refine (HWI _).out.mono ?_
        rintro e w3 ⟨rfl, rfl⟩
        go_wp2
        go_ret2
        exact BAD.out HGB.out
end Go.Proofs.YtjdaaecbnhcoaaaDoor
