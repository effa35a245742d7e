/-
  WALK of bits.Len, for numbers below 2^24.
-/
import Derived.Test.YtmgpimibnogcaaaChecked
import Derived.Lib.Strings
import Derived.Lib.Slices
import Derived.Lib.Small
import Derived.Lib.Walk
import Derived.Lib.BitFns
namespace Go.Proofs.Ytmgpimibnogcaaa

set_option maxRecDepth 100000 in
set_option maxHeartbeats 4000000 in
theorem bits64_any (x : Int) (w : World) (h0 : 0 ≤ x) (h1 : x < 16777216) :
    Calls Try.prog 59 #[.int .u64 x] w fun e w' => e = .returned (.int .i64 (Lib.bitLen x.toNat : Int)) ∧ w' = w := by
  go_enter Try.func59, Try.ntmps59
  go_wp2
  all_goals (go_ret; refine ⟨congrArg Ending.returned (congrArg (Value.int IntKind.i64) ?_), rfl⟩)
  all_goals first
    | (rw [Lib.len8_of (x / 65536 % 256) (by omega) (by omega)]
       have s := Lib.bitLen_shift16 x.toNat (by omega) (by omega)
       have l := Lib.bitLen_le8' (x / 65536 % 256) (by omega) (by omega)
       rw [show (x / 65536 % 256).toNat = x.toNat / 65536 by omega] at l ⊢
       omega)
    | (rw [Lib.len8_of (x / 256 % 256) (by omega) (by omega)]
       have s := Lib.bitLen_shift8 x.toNat (by omega) (by omega)
       have l := Lib.bitLen_le8' (x / 256 % 256) (by omega) (by omega)
       rw [show (x / 256 % 256).toNat = x.toNat / 256 by omega] at l ⊢
       omega)
    | (rw [Lib.len8_of (x % 256) (by omega) (by omega)]
       have l := Lib.bitLen_le8' (x % 256) (by omega) (by omega)
       rw [show (x % 256).toNat = x.toNat by omega] at l ⊢
       omega)
set_option maxRecDepth 100000 in
set_option maxHeartbeats 4000000 in
theorem bits_any (x : Int) (w : World) (h0 : 0 ≤ x) (h1 : x < 16777216) :
    Calls Try.prog 56 #[.int .u64 x] w fun e w' => e = .returned (.int .i64 (Lib.bitLen x.toNat : Int)) ∧ w' = w := by
  go_enter Try.func56, Try.ntmps56
  go_wp2_with (go_at_call 59; refine (bits64_any x _ h0 h1).mono ?_; rintro e w' ⟨rfl, rfl⟩)
  go_ret
  exact ⟨rfl, rfl⟩
end Go.Proofs.Ytmgpimibnogcaaa
