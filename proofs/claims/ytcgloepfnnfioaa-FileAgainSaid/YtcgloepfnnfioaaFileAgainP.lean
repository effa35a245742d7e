/-
  PROVED: bytes that 'Parse' takes are written again as they were by 'Encode', the file that they are is right, and what it refuses comes with a file without constants; no answer of the document's own is asked. Any bytes (more than 70000 are passed by, as the statement says). No condition.
-/
import Derived.Test.YtcgloepfnnfioaaRows
import Derived.Test.YtcgloepfnnfioaaP9
import Derived.Test.YtcgloepfnnfioaaS2
import Derived.WalkKit
import Derived.ProofKit
import Derived.OpenShut
import Derived.ShutString
import Derived.ChangeOld
import Derived.Below
set_option linter.unusedVariables false
set_option linter.unusedSimpArgs false
namespace Go.Proofs.Ytcgloepfnnfioaa
open Go.RowKit

theorem prs_good {l : List UInt8} (h : prsE l = 0) : encF (prsF l) = 0 ∧ L (encT (prsF l)) = l ∧ Texts (prsF l).pool ∧ rdF l 0 = (prsF l, [], 0) := by
  have hF : prsF l = (rdF l 0).1 := by unfold prsF; rw [if_pos h]
  unfold prsE at h
  split at h
  · simp at h
  · rename_i hl
    split at h
    · rename_i h0
      unfold leftE at h0
      split at h0
      · rename_i hx
        obtain ⟨⟨f, x, e⟩, hX⟩ : ∃ T, rdF l 0 = T := ⟨_, rfl⟩
        rw [hX] at h h0 hx hF
        simp only at h h0 hx hF
        subst h0 hx
        rw [hF]
        obtain ⟨h1, h2⟩ := rdF_inv hX
        rw [List.append_nil] at h1
        refine ⟨h, ?_, fun c hc => by have := h2 c hc; omega, hX⟩
        unfold encF at h
        unfold encT
        split at h
        · rename_i hp
          split at h
          · rename_i hn
            rw [if_pos ⟨hp, hn⟩]
            show fileN f = l
            exact h1.symm
          · simp at h
        · rename_i hp
          exact absurd h hp
      · exfalso
        unfold failE at h0
        split at h0
        · simp at h0
        · rename_i hx
          exact hx h0
    · rename_i h0
      exact absurd h h0
theorem prs_bad {l : List UInt8} (h : prsE l ≠ 0) : prsF l = zeroF := by unfold prsF; rw [if_neg h]
end Go.Proofs.Ytcgloepfnnfioaa
namespace Go.Proofs.Ytcgloepfnnfioaa.fileAgain
open Go.ChangeShapes Go.WideShapes Go.ChangeAt Go.RowKit
open Go.ChangeMaps (open_string shut_string)

theorem own : ownKnob Try.prog.godebug = none := by kernel_rfl

set_option maxRecDepth 1000000 in
set_option maxHeartbeats 3200000 in
theorem walk (b : ByteArray) (w0 : b.size ≤ maxLen) (w : World) :
    Calls Try.prog 6 #[.string b] w fun e w' => e = .returned (.bool true) ∧ Below w.heap.size w w' := by
  by_cases hl : b.size ≤ 70000
  · have hl' : (b.size : Int) ≤ 70000 := by omega
    have HP := Lib.hid (fun W => Parse_any b (by omega) W)
    by_cases he : prsE (L b) = 0
    · obtain ⟨h1, h2, h3, _⟩ := prs_good he
      have h2 : encT (prsF (L b)) = b := by
        rw [← mkB_L (encT (prsF (L b))), h2]
        exact mkB_L b
      rw [he] at HP
      generalize prsF (L b) = f at *
      have HEN := Lib.hid (fun B V W (hW : FileAt B W V f) hWB => Encode_file (B := B) f V W hW hWB h3)
      have HRI := Lib.hid (fun B V W (hW : FileAt B W V f) hWB => Right_file (B := B) f V W hW hWB h3)
      rw [h2, h1] at HEN
      rw [h1] at HRI
      clear he h1 h2 h3 hl w0
      go_enter Try.func6, Try.ntmps6
      go_wp2_with fail
      refine (shown_any _).mono ?_
      rintro e w1 ⟨rfl, hb1⟩
      have hs1 := hb1.size
      go_wp2_with fail
      refine (HP.out _).mono ?_
      rintro e w2 ⟨a0, c0, a4, c4, a5, c5, a6, c6, rfl, hown, hb2⟩
      have OW := Lib.hid (hown.alloc (.cells #[.slice a0 f.pool.length c0, .int .i64 f.fl, .int .i64 f.this, .int .i64 f.super, .slice a4 f.ifs.length c4, .slice a5 f.fds.length c5, .slice a6 f.mts.length c6] 26))
      have BF := Lib.hid (heap_new w2 (.cells #[.slice a0 f.pool.length c0, .int .i64 f.fl, .int .i64 f.this, .int .i64 f.super, .slice a4 f.ifs.length c4, .slice a5 f.fds.length c5, .slice a6 f.mts.length c6] 26))
      have BE := Lib.hid (((hb1.trans (hb2.mono hs1))).alloc (by have := hb2.size; omega) (.cells #[.slice a0 f.pool.length c0, .int .i64 f.fl, .int .i64 f.this, .int .i64 f.super, .slice a4 f.ifs.length c4, .slice a5 f.fds.length c5, .slice a6 f.mts.length c6] 26))
      have FA := Lib.hid (OW.out.fileAt)
      unfold flV at FA ⊢
      clear hown hb1 hb2 hs1
      go_wp2_with fail
      refine (HEN.out _ _ _ FA.out (Nat.le_refl _)).mono ?_
      rintro e w3 ⟨rfl, hb3⟩
      have BE3 := Lib.hid (BE.out.trans (hb3.mono BE.out.size))
      have BF3 := Lib.hid (Below.keep hb3 (lt_of_block BF.out) BF.out)
      have FA3 := Lib.hid (FA.out.below hb3 (Nat.le_refl _))
      have hs3 := hb3.size
      clear hb3
      have f0 := cells_of BF3.out 0
      have f1 := cells_of BF3.out 1
      have f2 := cells_of BF3.out 2
      have f3 := cells_of BF3.out 3
      have f4 := cells_of BF3.out 4
      have f5 := cells_of BF3.out 5
      have f6 := cells_of BF3.out 6
      have ltf := lt_of_block BF3.out
      go_wp2_with fail
      refine (HRI.out _ _ _ FA3.out hs3).mono ?_
      rintro e w4 ⟨rfl, hb4⟩
      have BE4 := Lib.hid (BE3.out.trans (hb4.mono BE3.out.size))
      clear hb4 f0 f1 f2 f3 f4 f5 f6 ltf
      go_wp2
      go_ret
      exact ⟨rfl, BE4.out⟩
    · have hz := prs_bad he
      have z1 : (prsE (L b) == 0) = false := by simpa using he
      have z2 : (prsE (L b) != 0) = true := by simpa using he
      rw [hz] at HP
      generalize prsE (L b) = E at *
      unfold flV zeroF at HP
      simp only [List.length_nil] at HP
      clear he hz hl w0
      go_enter Try.func6, Try.ntmps6
      go_wp2_with fail
      refine (shown_any _).mono ?_
      rintro e w1 ⟨rfl, hb1⟩
      have hs1 := hb1.size
      go_wp2_with fail
      refine (HP.out _).mono ?_
      rintro e w2 ⟨a0, c0, a4, c4, a5, c5, a6, c6, rfl, hown, hb2⟩
      have BE := Lib.hid (((hb1.trans (hb2.mono hs1))).alloc (by have := hb2.size; omega) (.cells #[.slice a0 0 c0, .int .i64 0, .int .i64 0, .int .i64 0, .slice a4 0 c4, .slice a5 0 c5, .slice a6 0 c6] 26))
      clear hown hb1 hb2 hs1
      go_wp2
      go_ret
      exact ⟨rfl, BE.out⟩
  · have hl' : (70000 : Int) < b.size := by omega
    clear hl
    go_enter Try.func6, Try.ntmps6
    go_wp2_with fail
    refine (shown_any _).mono ?_
    rintro e w1 ⟨rfl, hb1⟩
    have hs1 := hb1.size
    go_wp2
    go_ret
    exact ⟨rfl, hb1⟩

set_option maxRecDepth 100000 in
theorem lifted (os : Os) (started : os.Started) (H : Type) (enc : TypeId × Value → H) :
    ReturnsInHanded {} Try.checked os 6 .any (Rows.fileAgainSpec.pre6 enc Try.prog Try.f6 Rows.fileAgainRow.domain false) (Rows.fileAgainSpec.post enc Try.prog Try.f6 false true false false) := by
  refine returnsInHanded_of_change (C := Try.checked) own started (by kernel_rfl) Try.func6
    (ChangeSpec.witness6 (enc := enc) (C := Try.checked) false ⟨#[], #[.string ByteArray.empty], []⟩ 8 (by kernel_rfl) (by kernel_rfl) (by kernel_rfl) (by kernel_rfl)) ?_
  intro W base args ds gs before hval0 hW hcnd _
  have hval : ∀ (j : Nat) t v, Try.f6.params[j]? = some t → args[j]? = some v → Value.okWide Try.prog W .any base t v := hval0
  have hW' := hW
  obtain ⟨p, q, hA0, hV, rfl, hfz, hnd⟩ := hW
  have hA : DataW.TrodAll enc Try.prog W 0 (fun _ => true) true Try.f6.params.toList args.toList ds p := hA0
  rw [Try.params6] at hA hval
  obtain ⟨v0, vs0, d0, ds0, p0, q0, hargs, rfl, rfl, h0, r0⟩ := trodAll_cons hA
  obtain ⟨rfl, rfl, rfl⟩ := trodAll_nil r0
  obtain rfl : args = #[v0] := by cases args; simp_all
  obtain ⟨rfl, rfl⟩ := trodVars_none hV
  obtain ⟨a0, rfl, rfl, rfl, w0⟩ := open_string Try.underlying9 (hval 0 9 v0 rfl rfl) h0
  clear hA0 hval0
  simp only [List.append_nil] at hW'
  refine (walk a0 w0 W).mono fun e W' ⟨he, bel⟩ => ?_
  subst he
  exact ⟨_, rfl, _, _, _, [], [], [], hW', trodAll_mk1 (shut_bool Try.underlying4 _), (trodAll_cons_mk (shut_string Try.underlying9 w0) trodAll_mk0), rfl, bel.frame _, fun h => by cases h⟩

theorem over : Rows.fileAgainRow.holds Try.pinned (OpenSpec.ofChange Rows.fileAgainSpec) :=
  OpenClaim.holds_of_wide 6 Try.f6 rfl rfl rfl rfl rfl rfl rfl ⟨rfl, rfl, rfl, rfl, rfl⟩ rfl rfl rfl rfl rfl (by kernel_rfl) Try.func6 (by kernel_rfl)
    (of_decide_eq_true (by kernel_rfl)) (by unfold Func.isWrapper; first | (rw [if_pos (by decide +kernel)]; kernel_rfl) | (rw [if_neg (by decide +kernel)]; exact ⟨rfl, rfl⟩))
    (fun os started H enc _ => lifted os started H enc)

theorem proved : Rows.FileAgainSaid := over
end Go.Proofs.Ytcgloepfnnfioaa.fileAgain
