/-
  WALK of Pack.
-/
import Derived.Test.YtgepgbpjdjbelaaRg
set_option linter.unusedVariables false
set_option linter.unusedSimpArgs false
namespace Go.Proofs.Ytgepgbpjdjbelaa
open Go.RowKit

theorem packM_len {m : MP} (h : Fit m) : (packM m).length ≤ 18 := by
  obtain ⟨h1, h2⟩ := h
  unfold packM
  rw [List.length_cons, List.length_cons, packB_len, List.length_append]
  unfold szB
  omega
theorem packL_len : ∀ {l : List MP}, (∀ m ∈ l, Fit m) → (packL l).length ≤ 18 * l.length
  | [], _ => by simp [packL]
  | m :: l, h => by
    rw [packL_cons, List.length_append, List.length_cons]
    have := packM_len (h m (by simp))
    have := packL_len (l := l) (fun x hx => h x (by simp [hx]))
    omega
theorem packL_take {l : List MP} {k : Nat} {m : MP} (h : l[k]? = some m) : packL (l.take (k + 1)) = packL (l.take k) ++ packM m := by
  obtain ⟨hk, rfl⟩ := List.getElem?_eq_some_iff.1 h
  unfold packL
  rw [List.take_succ_eq_append_getElem hk, List.flatMap_append]
  simp
set_option maxRecDepth 1000000 in
set_option maxHeartbeats 6400000 in
theorem Pack_any (l : List MP) (v : Value) (B : Nat) (w : World) (hr : MRow B w v l) (hB : B ≤ w.heap.size) :
    Calls Try.prog 14 #[v] w fun e w' => e = .returned (.tuple #[.string ⟨(pkS l).toArray⟩, .int .i64 ((pkE l : Nat) : Int)]) ∧ Below w.heap.size w w' := by
  obtain ⟨A, c, rfl, hlc, hlm⟩ := hr.form
  unfold maxLen at hlm
  have HR := Lib.hid hr
  obtain ⟨n, hn⟩ : ∃ n, l.length = n := ⟨_, rfl⟩
  have HN := Lib.hid hn
  rw [hn] at hlc hlm HR ⊢
  have hlmi : (n : Int) ≤ 9223372036854775807 := by omega
  clear hr hn
  by_cases hm : 4096 < n
  · have hE : pkE l = 3 := by unfold pkE; rw [HN.out, if_pos hm]
    have hS : pkS l = [] := by unfold pkS; rw [hE]; rfl
    rw [hE, hS]
    have hmi : (4096 : Int) < (n : Int) := by omega
    clear hE hS hm
    go_enter Try.func14, Try.ntmps14
    go_wp2
    go_ret2
    exact ⟨rfl, Below.refl _ _⟩
  · have hmi : ¬ (4096 : Int) < (n : Int) := by omega
    have hm4 : n ≤ 4096 := by omega
    have HPE := Lib.hid (show (∀ m ∈ l, Fit m) → pkE l = 0 ∧ pkS l = hd2 n ++ packL l from fun h => by
      have e : pkE l = 0 := pkE_ok.2 ⟨by rw [HN.out]; exact hm4, h⟩
      refine ⟨e, ?_⟩
      unfold pkS
      rw [if_pos e, HN.out])
    have HPN := Lib.hid (show (¬ ∀ m ∈ l, Fit m) → pkE l = 2 ∧ pkS l = [] from fun h => by
      have e : pkE l = 2 := by unfold pkE; rw [HN.out, if_neg hm, if_neg h]
      refine ⟨e, ?_⟩
      unfold pkS
      rw [e]
      rfl)
    have hq8 : IntKind.u8.wrap ((n : Int) / 256) = (n : Int) / 256 := by
      have : ((n : Int) / 256) < 256 := by omega
      have : 0 ≤ ((n : Int) / 256) := by omega
      show ((n : Int) / 256) % (2 ^ IntKind.u8.bits) = _
      exact Int.emod_eq_of_lt (by omega) (by show _ < (256 : Int); omega)
    have hB0 := Lib.hid hB
    clear hm hB
    go_enter Try.func14, Try.ntmps14
    go_wp2_with fail
    have HU : ucells (hd2 n) = [.int .u8 ((n : Int) / 256), .int .u8 ((n : Int) % 256)] := by
      unfold ucells hd2
      simp only [List.map_cons, List.map_nil, UInt8.toNat_ofNat', List.cons.injEq, Value.int.injEq, true_and, and_true]
      constructor <;> omega
    have O0 := Lib.hid (show OwnB (w.alloc (.cells #[.int .u8 ((n : Int) / 256), .int .u8 ((n : Int) % 256)] 5)) w.heap.size (.slice (some ⟨w.heap.size, 0, none⟩) 2 2) (hd2 n) from by
      unfold OwnB
      rw [HU]
      exact own_new (size := 1) (heap_new w (.cells #[.int .u8 ((n : Int) / 256), .int .u8 ((n : Int) % 256)] 5)) (Nat.le_refl _) rfl (by unfold maxLen; omega))
    have K0 := Lib.hid ((Kept.refl 5 w.heap.size w).alloc (Nat.le_refl _) (.cells #[.int .u8 ((n : Int) / 256), .int .u8 ((n : Int) % 256)] 5))
    clear HU hq8
    go_loopw [4, 20] (fun bv iv wx => ∃ k : Nat, k ≤ n ∧ iv = .int .i64 (k : Int) ∧ (∀ m ∈ l.take k, Fit m) ∧ OwnB wx w.heap.size bv (hd2 n ++ packL (l.take k)) ∧ Kept 5 w.heap.size w wx) (fun _ iv _ => n - (intOf iv).toNat)
    case atStart => exact ⟨0, Nat.zero_le _, rfl, (fun m hm => by simp at hm), (by rw [List.take_zero]; simpa [packL] using O0.out), K0.out⟩
    case round =>
      obtain ⟨k, hk, rfl, hfit, hown, hkept⟩ := hrel
      have HF := Lib.hid hfit
      have HO := Lib.hid hown
      have HK := Lib.hid hkept
      have hsz := hkept.size
      clear hfit hown hkept O0 K0
      by_cases hlt : k < n
      · have hx := List.getElem?_eq_getElem (show k < l.length by rw [HN.out]; exact hlt)
        generalize l[k]'_ = m at hx
        have hrw := HR.out.below HK.out.below hB0.out
        obtain ⟨b, o, A1, c1, A2, c2, rfl, hbB, r1, r2, x0, x1⟩ := hrw.at_ hx
        have HX := Lib.hid hx
        have R1 := Lib.hid r1
        have R2 := Lib.hid r2
        obtain ⟨_, _, _, _, hm1⟩ := r1.form
        obtain ⟨_, _, _, _, hm2⟩ := r2.form
        have hi1 : (m.1.length : Int) ≤ 9223372036854775807 := by unfold maxLen at hm1; omega
        have hi2 : (m.2.length : Int) ≤ 9223372036854775807 := by unfold maxLen at hm2; omega
        have hbw : b < wr.heap.size := by have := hB0.out; omega
        clear hx hrw r1 r2 hm1 hm2
        by_cases hf : Fit m
        · have hd : decide (64 < m.1.length ∨ 64 < m.2.length) = false := decide_eq_false (by have := hf.1; have := hf.2; omega)
          have HD := Lib.hid hd
          have HFM := Lib.hid hf
          clear hd hf
          go_wp2_with fail
          refine (isLong_in m.1.length m.2.length false HD.out _ hi1 hi2).mono ?_
          rintro e w5 ⟨rfl, hw5⟩
          rw [hw5]
          clear hw5 w5
          have hln : (hd2 n ++ packL (l.take k)).length ≤ 1000000 := by
            rw [List.length_append]
            have := packL_len HF.out
            have : (l.take k).length ≤ k := by rw [List.length_take]; omega
            have : (hd2 n).length = 2 := rfl
            omega
          have HL := Lib.hid hln
          clear hln
          go_wp2_with fail
          refine (appendMap_any m A1 A2 c1 c2 B w.heap.size _ _ _ (Row.keep R1.out (fun p hp => World.cell?_alloc_lt wr _ p (by have := hB0.out; omega))) (Row.keep R2.out (fun p hp => World.cell?_alloc_lt wr _ p (by have := hB0.out; omega))) hB0.out (World.ownsRow.alloc HO.out _) (by simp; omega) HL.out HFM.out).mono ?_
          rintro e w6 ⟨v6, rfl, hown6, hk6⟩
          have HO6 := Lib.hid hown6
          have HK6 := Lib.hid ((HK.out.alloc hsz _).trans hk6)
          clear hown6 hk6
          go_wp2
          go_roundw
          case rel =>
            refine ⟨k + 1, by omega, by go_num, ?_, ?_, HK6.out⟩
            · intro y hy
              rw [List.take_add_one, HX.out] at hy
              rcases List.mem_append.1 hy with hy | hy
              · exact HF.out y hy
              · simp at hy
                rw [hy]
                exact HFM.out
            · rw [packL_take HX.out, ← List.append_assoc]
              exact HO6.out
          case measure => simp [intOf]; omega
        · have hd : decide (64 < m.1.length ∨ 64 < m.2.length) = true := decide_eq_true (by unfold Fit at hf; omega)
          have HD := Lib.hid hd
          obtain ⟨e1, e2⟩ := HPN.out (fun h => hf (h m (List.mem_of_getElem? HX.out)))
          have E1 := Lib.hid e1
          have E2 := Lib.hid e2
          clear hd hf e1 e2
          go_wp2_with fail
          refine (isLong_in m.1.length m.2.length true HD.out _ hi1 hi2).mono ?_
          rintro e w5 ⟨rfl, hw5⟩
          rw [hw5]
          clear hw5 w5
          go_wp2
          go_ret2
          rw [E1.out, E2.out]
          exact ⟨rfl, (HK.out.alloc hsz _).below⟩
      · obtain rfl : k = n := by omega
        have htk : l.take k = l := List.take_of_length_le (by rw [HN.out]; exact Nat.le_refl _)
        rw [htk] at HF HO
        obtain ⟨e1, e2⟩ := HPE.out HF.out
        have E1 := Lib.hid e1
        have E2 := Lib.hid e2
        have hcv : ∀ bv, OwnB wr w.heap.size bv (hd2 k ++ packL l) → (convert 59 9 bv).run Try.prog wr = .ok (.string ⟨(hd2 k ++ packL l).toArray⟩) wr := fun bv h => string_owned h
        have hcv := hcv _ HO.out
        clear e1 e2 htk
        go_wp2
        go_ret2
        rw [E1.out, E2.out]
        exact ⟨rfl, HK.out.below⟩
end Go.Proofs.Ytgepgbpjdjbelaa
