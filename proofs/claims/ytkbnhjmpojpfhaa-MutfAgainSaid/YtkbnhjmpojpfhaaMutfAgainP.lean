/-
  PROVED: bytes that 'Decode' takes are written again as they were by 'Encode', and what it refuses comes with the empty text and the error of bytes that are none; no answer of the document's own is asked. Any bytes (more than 65535 are passed by, as the statement says). No condition.
-/
import Derived.Test.YtkbnhjmpojpfhaaRows
import Derived.Test.YtkbnhjmpojpfhaaW13
import Derived.WalkKit
import Derived.ProofKit
import Derived.OpenShut
import Derived.ShutString
import Derived.ChangeOld
import Derived.Below
namespace Go.Proofs.Ytkbnhjmpojpfhaa.mutfAgain
open Go.ChangeShapes Go.WideShapes Go.ChangeAt Go.RowKit
open Go.ChangeMaps (open_string shut_string)
set_option linter.unusedVariables false      -- a walk need not use every 'w<i>' (that an integer argument fits its kind)

theorem own : ownKnob Try.prog.godebug = none := by kernel_rfl

theorem dec_enc (l : List UInt8) (rs : List Nat) (h : mruns l = some rs) : encL (rs.flatMap u8) = l ∧ validL (rs.flatMap u8) = true := by
  obtain ⟨e, hs⟩ := mruns_eq l rs h
  obtain ⟨h1, h2⟩ := runes_u8 rs hs
  refine ⟨?_, h2⟩
  unfold encL
  rw [h1]
  exact e.symm
theorem flat_u8_le4 (rs : List Nat) : (rs.flatMap u8).length ≤ 4 * rs.length := by
  induction rs with
  | nil => simp
  | cons r rs ih =>
    have := (u8_length r).2
    simp only [List.flatMap_cons, List.length_append, List.length_cons]
    omega
theorem mb_flat_ge (rs : List Nat) : rs.length ≤ (rs.flatMap mb).length := by
  induction rs with
  | nil => simp
  | cons r rs ih =>
    have := (mb_length r).1
    simp only [List.flatMap_cons, List.length_append, List.length_cons]
    omega
set_option maxRecDepth 1000000 in
set_option maxHeartbeats 1600000 in
theorem walk (a0 : ByteArray) (w0 : a0.size ≤ maxLen) (w : World) :
    Calls Try.prog 9 #[.string a0] w fun e w' => e = .returned (.bool true) ∧ Below w.heap.size w w' := by
  by_cases hl : a0.size ≤ 65535
  · have hsz := size_L a0
    cases hm : mruns (L a0) with
    | none =>
      have hA : decA (L a0) = [] := by unfold decA; rw [hm]; simp
      have hE : decE (L a0) = 4 := by unfold decE; rw [hm, if_pos (by omega)]; rfl
      have HA := fun W => Lib.hid (Decode_any a0 W)
      rw [hA, hE] at HA
      have HA : ∀ W, Hid (Calls Try.prog 16 #[.string a0] W fun e w' => e = .returned (.tuple #[.string ⟨#[]⟩, .int .i64 4]) ∧ Below W.heap.size W w') := HA
      clear w0 hA hE hm hsz
      go_enter Try.func9, Try.ntmps9
      go_wp2_with fail
      refine (shown_any _).mono ?_
      rintro e w1 ⟨rfl, hb1⟩
      have hs1 := hb1.size
      go_wp2_with fail
      refine (HA _).out.mono ?_
      rintro e w2 ⟨rfl, hb2⟩
      have hb2 := hb1.trans (hb2.mono hs1)
      have hs2 := hb2.size
      clear hb1 hs1
      go_wp2
      go_ret
      exact ⟨rfl, hb2⟩
    | some rs =>
      obtain ⟨h1, h2⟩ := dec_enc (L a0) rs hm
      have hrl := mb_flat_ge rs
      rw [← (mruns_eq (L a0) rs hm).1, ← hsz] at hrl
      have hfl := flat_u8_le4 rs
      have hA : decA (L a0) = rs.flatMap u8 := by unfold decA; rw [hm, if_pos (by omega)]; rfl
      have hE : decE (L a0) = 0 := by unfold decE; rw [hm, if_pos (by omega)]; rfl
      have HA := fun W => Lib.hid (Decode_any a0 W)
      rw [hA, hE] at HA
      obtain ⟨t, ht⟩ : ∃ t : ByteArray, t = ⟨(rs.flatMap u8).toArray⟩ := ⟨_, rfl⟩
      have hLt : L t = rs.flatMap u8 := by rw [ht]
      have hts : t.size ≤ 1000000 := by rw [size_L, hLt]; omega
      have HB := fun W => Lib.hid (Encode_any t W (by omega))
      have hEA : encA (L t) = L a0 := by unfold encA; rw [hLt, h1, if_pos ⟨h2, by omega⟩]
      have hEE : encE (L t) = 0 := by unfold encE; rw [hLt, if_pos h2, h1, if_pos (by omega)]
      rw [hEA, hEE] at HB
      have HA : ∀ W, Hid (Calls Try.prog 16 #[.string a0] W fun e w' => e = .returned (.tuple #[.string t, .int .i64 0]) ∧ Below W.heap.size W w') := by rw [ht]; exact HA
      have HB : ∀ W, Hid (Calls Try.prog 14 #[.string t] W fun e w' => e = .returned (.tuple #[.string a0, .int .i64 0]) ∧ Below W.heap.size W w') := by
        have e : strV (L a0) = .string a0 := by unfold strV; rw [Lib.mk_data]
        rw [e] at HB
        exact HB
      clear w0 hA hE hm hsz h1 h2 hrl hfl hLt hEA hEE ht hts
      go_enter Try.func9, Try.ntmps9
      go_wp2_with fail
      refine (shown_any _).mono ?_
      rintro e w1 ⟨rfl, hb1⟩
      have hs1 := hb1.size
      go_wp2_with fail
      refine (HA _).out.mono ?_
      rintro e w2 ⟨rfl, hb2⟩
      have hb2 := hb1.trans (hb2.mono hs1)
      have hs2 := hb2.size
      clear hb1 hs1
      go_wp2_with fail
      refine (HB _).out.mono ?_
      rintro e w3 ⟨rfl, hb3⟩
      have hb3 := hb2.trans (hb3.mono hs2)
      have hs3 := hb3.size
      clear hb2 hs2
      go_wp2
      go_ret
      exact ⟨rfl, hb3⟩
  · go_enter Try.func9, Try.ntmps9
    go_wp2_with fail
    refine (shown_any _).mono ?_
    rintro e w1 ⟨rfl, hb1⟩
    have hs1 := hb1.size
    go_wp2
    go_ret
    exact ⟨rfl, hb1⟩

set_option maxRecDepth 100000 in
theorem lifted (os : Os) (started : os.Started) (H : Type) (enc : TypeId × Value → H) :
    ReturnsInHanded {} Try.checked os 9 .any (Rows.mutfAgainSpec.pre6 enc Try.prog Try.f9 Rows.mutfAgainRow.domain false) (Rows.mutfAgainSpec.post enc Try.prog Try.f9 false true false false) := by
  refine returnsInHanded_of_change (C := Try.checked) own started (by kernel_rfl) Try.func9
    (ChangeSpec.witness6 (enc := enc) (C := Try.checked) false ⟨#[], #[.string ByteArray.empty], []⟩ 8 (by kernel_rfl) (by kernel_rfl) (by kernel_rfl) (by kernel_rfl)) ?_
  intro W base args ds gs before hval0 hW hcnd _
  have hval : ∀ (j : Nat) t v, Try.f9.params[j]? = some t → args[j]? = some v → Value.okWide Try.prog W .any base t v := hval0
  have hW' := hW
  obtain ⟨p, q, hA0, hV, rfl, hfz, hnd⟩ := hW
  have hA : DataW.TrodAll enc Try.prog W 0 (fun _ => true) true Try.f9.params.toList args.toList ds p := hA0
  rw [Try.params9] at hA hval
  obtain ⟨v0, vs0, d0, ds0, p0, q0, hargs, rfl, rfl, h0, r0⟩ := trodAll_cons hA
  obtain ⟨rfl, rfl, rfl⟩ := trodAll_nil r0
  obtain rfl : args = #[v0] := by cases args; simp_all
  obtain ⟨rfl, rfl⟩ := trodVars_none hV
  obtain ⟨a0, rfl, rfl, rfl, w0⟩ := open_string Try.underlying9 (hval 0 9 v0 rfl rfl) h0
  clear hA0 hval0
  simp only [List.append_nil] at hW'
  refine (walk a0 w0 W).mono fun e W' ⟨he, bel⟩ => ?_
  subst he
  exact ⟨_, rfl, _, _, _, [], [], [], hW', trodAll_mk1 (shut_bool Try.underlying4 _), (trodAll_cons_mk (shut_string Try.underlying9 w0) trodAll_mk0), rfl, bel.frame _, fun h => by cases h⟩

theorem over : Rows.mutfAgainRow.holds Try.pinned (OpenSpec.ofChange Rows.mutfAgainSpec) :=
  OpenClaim.holds_of_wide 9 Try.f9 rfl rfl rfl rfl rfl rfl rfl ⟨rfl, rfl, rfl, rfl, rfl⟩ rfl rfl rfl rfl rfl (by kernel_rfl) Try.func9 (by kernel_rfl)
    (of_decide_eq_true (by kernel_rfl)) (by unfold Func.isWrapper; first | (rw [if_pos (by decide +kernel)]; kernel_rfl) | (rw [if_neg (by decide +kernel)]; exact ⟨rfl, rfl⟩))
    (fun os started H enc _ => lifted os started H enc)

theorem proved : Rows.MutfAgainSaid :=
  over
end Go.Proofs.Ytkbnhjmpojpfhaa.mutfAgain
