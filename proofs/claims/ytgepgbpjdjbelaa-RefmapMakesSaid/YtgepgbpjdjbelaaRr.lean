/-
  WALK of the document's refs.
-/
import Derived.Test.YtgepgbpjdjbelaaRm
set_option linter.unusedVariables false
set_option linter.unusedSimpArgs false
namespace Go.Proofs.Ytgepgbpjdjbelaa
open Go.RowKit

theorem info4' : ∃ i, Try.prog.info? 4 = some i ∧ i.zero = some (.bool false) ∧ i.size = 1 ∧ i.bytes = 1 := info_parts (by kernel_rfl)
theorem take_refs {ks : List KQ} {i : Nat} {q : KQ} (hq : ks[i]? = some q) : bcells ((ks.take (i + 1)).map isRefQ) = bcells ((ks.take i).map isRefQ) ++ [.bool (isRefQ q)] := by
  obtain ⟨hk, rfl⟩ := List.getElem?_eq_some_iff.1 hq
  rw [List.take_succ_eq_append_getElem hk, List.map_append, bcells_app]
  rfl
set_option maxRecDepth 1000000 in
set_option maxHeartbeats 6400000 in
theorem refs_any (ks : List KQ) (v : Value) (B : Nat) (w : World) (hr : KRow B w v ks) (hB : B ≤ w.heap.size) (hl : ks.length ≤ 4000000000000) :
    Calls Try.prog 21 #[v] w fun e w' => ∃ v', e = .returned v' ∧ OwnL w' w.heap.size v' (ks.map isRefQ) ∧ Below w.heap.size w w' := by
  obtain ⟨A, c, rfl, hlc, hlm⟩ := hr.form
  obtain ⟨i0, hi, hz0, hz1, hz2⟩ := info4'
  have HR := Lib.hid hr
  obtain ⟨n, hn⟩ : ∃ n, ks.length = n := ⟨_, rfl⟩
  have HN := Lib.hid hn
  rw [hn] at hlc hlm HR hl ⊢
  have hlI : (n : Int) ≤ 9223372036854775807 := by omega
  clear hr hn
  go_enter Try.func21, Try.ntmps21
  go_wp2
  go_loopw [3, 4] (fun bv iv wx => ∃ i : Nat, i ≤ n ∧ iv = .int .i64 (i : Int) ∧ wx.ownsRow w.heap.size 4 1 bv i (bcells ((ks.take i).map isRefQ)) ∧ Below w.heap.size w wx) (fun _ iv _ => n - (intOf iv).toNat)
  case atStart => exact ⟨0, Nat.zero_le _, rfl, World.ownsRow_nil _ _ _ _, Below.refl _ _⟩
  case round =>
    obtain ⟨i, hin, rfl, ho, hb⟩ := hrel
    have HB := Lib.hid hb
    have HO := Lib.hid ho
    have hsz := hb.size
    obtain ⟨g, d, rfl⟩ := own_form ho
    clear hb ho
    by_cases hlt : i < n
    · obtain ⟨q, hq⟩ : ∃ q, ks[i]? = some q := ⟨_, List.getElem?_eq_getElem (by rw [HN.out]; exact hlt)⟩
      obtain ⟨b, o, rfl, hbB, x0, _⟩ := (HR.out.below HB.out hB).at_ hq
      have hbw : b < wr.heap.size := by omega
      have HTR := Lib.hid (take_refs hq)
      have hi2 : (i : Int) < (n : Int) := by omega
      obtain ⟨k, hk⟩ : ∃ k, q.1 = k := ⟨_, rfl⟩
      rw [hk] at x0
      obtain ⟨r, hr2⟩ : ∃ r, isRefQ q = r := ⟨_, rfl⟩
      have hrk : r = decide (2 ≤ k ∧ k ≤ 5) := by rw [← hr2, ← hk]; rfl
      have HRR := Lib.hid hr2
      clear hq hk hr2
      by_cases h2 : 2 ≤ k
      · have e2 : decide (k ≥ 2) = true := decide_eq_true h2
        have hrk2 : r = decide (k ≤ 5) := by rw [hrk]; simp [h2]
        obtain ⟨r5, hr5⟩ : ∃ r, decide (k ≤ 5) = r := ⟨_, rfl⟩
        have er : r = r5 := by rw [hrk2, hr5]
        subst er
        clear hrk hrk2 e2
        go_wp2_with (at_builtin; refine wpList_append_own _ rfl (.tmp 11) (.tmp 26) 23 rfl w.heap.size 4 i0 (.bool false) 1 1 und23 hi hz0 hz1 hz2 rfl (by decide) (.slice g i d) i _ rfl (World.ownsRow.alloc HO.out _) ⟨_, 0, none⟩ 1 1 [.bool r] rfl rfl ?a1 ?b1 ?c1 ?d1 ?e1 ?_)
        try case a1 => exact new_at wr [.bool r] 4
        try case b1 => exact fun u hu => by simp at hu; rw [hu]; rfl
        case c1 => unfold maxLen; omega
        case d1 => omega
        case e1 => simp; omega
        intro v1 w1 own1 hg1 _
        have HB1 := Lib.hid (HB.out.alloc hsz (.cells #[.bool r] 4) |>.trans (own_grown (World.ownsRow.alloc HO.out _) (by simp; omega) hg1).below)
        have HO1 := Lib.hid own1
        obtain ⟨g1, d1, rfl⟩ := own_form own1
        clear own1 hg1
        go_wp2
        go_roundw
        case rel => exact ⟨i + 1, by omega, by go_num, by rw [HTR.out, HRR.out, List.map_take]; exact HO1.out, HB1.out⟩
        case measure => simp [intOf]; omega
      · have h2' : k < 2 := by omega
        have hrf : r = false := by rw [hrk]; exact decide_eq_false (by omega)
        subst hrf
        clear hrk
        go_wp2_with (at_builtin; refine wpList_append_own _ rfl (.tmp 11) (.tmp 26) 23 rfl w.heap.size 4 i0 (.bool false) 1 1 und23 hi hz0 hz1 hz2 rfl (by decide) (.slice g i d) i _ rfl (World.ownsRow.alloc HO.out _) ⟨_, 0, none⟩ 1 1 [.bool false] rfl rfl ?a1 ?b1 ?c1 ?d1 ?e1 ?_)
        try case a1 => exact new_at wr [.bool false] 4
        try case b1 => first | rfl | exact fun u hu => by simp at hu; rw [hu]; rfl
        case c1 => unfold maxLen; omega
        case d1 => omega
        case e1 => first | omega | (simp; omega)
        intro v1 w1 own1 hg1 _
        have HB1 := Lib.hid (HB.out.alloc hsz (.cells #[.bool false] 4) |>.trans (own_grown (World.ownsRow.alloc HO.out _) (by simp; omega) hg1).below)
        have HO1 := Lib.hid own1
        obtain ⟨g1, d1, rfl⟩ := own_form own1
        clear own1 hg1
        go_wp2
        go_roundw
        case rel => exact ⟨i + 1, by omega, by go_num, by rw [HTR.out, HRR.out, List.map_take]; exact HO1.out, HB1.out⟩
        case measure => simp [intOf]; omega
    · obtain rfl : i = n := by omega
      have e1 : ks.take i = ks := List.take_of_length_le (by rw [HN.out]; exact Nat.le_refl _)
      have HO2 := Lib.hid (e1 ▸ HO.out)
      clear e1
      go_wp2
      go_ret
      refine ⟨_, rfl, ?_, HB.out⟩
      unfold OwnL
      rw [List.length_map, HN.out]
      exact HO2.out
end Go.Proofs.Ytgepgbpjdjbelaa
