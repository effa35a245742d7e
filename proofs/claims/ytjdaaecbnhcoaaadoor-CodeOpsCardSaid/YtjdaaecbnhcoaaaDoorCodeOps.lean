/-
  WALK of the law CodeOps.
-/
import Derived.Test.YtjdaaecbnhcoaaaDoorK9
set_option linter.unusedVariables false
set_option linter.unusedSimpArgs false
namespace Go.Proofs.YtjdaaecbnhcoaaaDoor
open Go.RowKit

theorem nm_back : ∀ i : Fin 64, opK (namT i.val) = i.val ∧ opB (namT i.val) = true := by decide +kernel
theorem Op_back (k : Nat) (hk : k < 64) (w : World) (h : Names w) : Calls Tryd.prog 13 #[.string (namT k)] w fun e w' => e = .returned (.tuple #[.int .i64 k, .bool true]) ∧ w = w' := by
  have := Op_any (namT k) w h
  obtain ⟨h1, h2⟩ := nm_back ⟨k, hk⟩
  rw [h1, h2] at this
  exact this
set_option maxRecDepth 1000000 in
set_option maxHeartbeats 6400000 in
theorem ops_walk (op : Int) (s : ByteArray) (w : World) (hN : Names w) :
    Calls Tryd.prog 3 #[.int .i64 op, .string s] w fun e w' => e = .returned (.bool true) ∧ Below w.heap.size w w' := by
  have N0 := Lib.hid hN
  have HF := fun o W => Lib.hid (Form_any o W)
  have HRF := fun o W => Lib.hid (refForm_any o W)
  have HE := fun o W => Lib.hid (ends_any o W)
  have HRE := fun o W => Lib.hid (refEnds_any o W)
  clear hN
  go_enter Tryd.func3, Tryd.ntmps3
  go_wp2_with fail
  refine (shown_any _ N0.out).mono ?_
  rintro e w1 ⟨rfl, hb⟩
  have N1 := Lib.hid (N0.out.below hb)
  have B1 := Lib.hid hb
  clear hb
  go_wp2_with fail
  refine (Name_any op _ N1.out).mono ?_
  rintro e w2 ⟨rfl, rfl⟩
  go_wp2_with fail
  refine (refName_any op _).mono ?_
  rintro e w2 ⟨rfl, hb⟩
  have N2 := Lib.hid (N1.out.below hb)
  have B2 := Lib.hid (Below.link B1.out hb)
  clear hb
  go_wp2_with fail
  refine (Op_any s _ N2.out).mono ?_
  rintro e w3 ⟨rfl, rfl⟩
  go_wp2_with fail
  refine (refOp_any s _).mono ?_
  rintro e w3 ⟨rfl, hb⟩
  have N3 := Lib.hid (N2.out.below hb)
  have B3 := Lib.hid (Below.link B2.out hb)
  clear hb
  go_wp2_with (first | (go_at_call 15; refine (HF _ _).out.mono ?_; rintro e w4 ⟨rfl, rfl⟩) | (go_at_call 16; refine (HRF _ _).out.mono ?_; rintro e w4 ⟨rfl, rfl⟩) | (go_at_call 17; refine (HE _ _).out.mono ?_; rintro e w4 ⟨rfl, rfl⟩) | (go_at_call 18; refine (HRE _ _).out.mono ?_; rintro e w4 ⟨rfl, rfl⟩))
  go_loop [14] (fun i => ∃ k : Nat, k ≤ 64 ∧ i = .int .i64 k) (fun i => 64 - (intOf i).toNat)
  case atStart => exact ⟨0, by omega, rfl⟩
  case round =>
    obtain ⟨k, hk, rfl⟩ := hrel
    by_cases hlt : k < 64
    · have hp : isOpP (k : Int) = true := by simp [isOpP]; omega
      have HNM := Lib.hid (Name_any k w3 N3.out)
      rw [hp] at HNM
      have HB := Lib.hid (Op_back k hlt w3 N3.out)
      clear hp
      go_wp2_with fail
      refine HNM.out.mono ?_
      rintro e w4 ⟨rfl, rfl⟩
      go_wp2_with fail
      refine HB.out.mono ?_
      rintro e w4 ⟨rfl, rfl⟩
      go_wp2_with (first | (go_at_call 15; refine (HF _ _).out.mono ?_; rintro e w4 ⟨rfl, rfl⟩) | (go_at_call 16; refine (HRF _ _).out.mono ?_; rintro e w4 ⟨rfl, rfl⟩) | (go_at_call 17; refine (HE _ _).out.mono ?_; rintro e w4 ⟨rfl, rfl⟩) | (go_at_call 18; refine (HRE _ _).out.mono ?_; rintro e w4 ⟨rfl, rfl⟩))
      go_round
      case rel => exact ⟨k + 1, by omega, by go_num⟩
      case measure => simp [intOf]; omega
    · go_wp2
      go_ret
      exact ⟨rfl, B3.out⟩
end Go.Proofs.YtjdaaecbnhcoaaaDoor
