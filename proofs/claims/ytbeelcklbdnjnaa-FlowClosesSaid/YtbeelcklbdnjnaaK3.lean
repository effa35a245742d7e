/-
  CUT by wip/tools/rawprune.py: what is needed of an earlier stage's text.
-/
import Derived.Test.YtbeelcklbdnjnaaK1
set_option linter.unusedVariables false
set_option linter.unusedSimpArgs false
namespace Go.Proofs.Ytbeelcklbdnjnaa
open Go.RowKit

theorem get_b1 (s : ByteArray) (i : Nat) (h : i < s.size) : ((s[i]'h).toNat) = b1 (L s) i := by
  unfold b1
  congr 1
  have h' : i < (L s).length := by rw [← size_L]; exact h
  simp only [List.getD, List.getElem?_eq_getElem h', Option.getD_some]
  rfl
theorem L_extract (s : ByteArray) (i j : Nat) : L (s.extract i j) = ((L s).drop i).take (j - i) := by
  have := Lib.extract_toList s i j
  simp [L, this]
set_option maxHeartbeats 1600000 in
theorem two_any (s : ByteArray) (w : World) (h : 2 ≤ s.size) :
    Calls Try.prog 34 #[.string s] w fun e w' => e = .returned (.int .i64 (b2 (L s) 0)) ∧ ∃ n, w' = w.drewN n := by
  have h0 : 0 < s.size := by omega
  have h1 : 1 < s.size := by omega
  have h1' : (1 : Int) < (s.size : Int) := by omega
  have h0' : (0 : Int) < (s.size : Int) := by omega
  have E0 := Lib.hid (get_b1 s 0 h0)
  have E1 := Lib.hid (get_b1 s 1 h1)
  have B0 : ((s[0]'h0).toNat : Int) < 256 := by have := (s[0]'h0).toNat_lt; omega
  have B1 : ((s[1]'h1).toNat : Int) < 256 := by have := (s[1]'h1).toNat_lt; omega
  go_enter Try.func34, Try.ntmps34
  go_wp2
  go_quiet (fail)
  go_wp2
  go_ret
  exact ⟨ret_i (by unfold b2; rw [← E0.out, ← E1.out]), _, rfl⟩
theorem L_from (s : ByteArray) (k : Nat) : L (s.extract k s.size) = (L s).drop k := by
  rw [L_extract]
  rw [List.take_of_length_le]
  rw [List.length_drop, ← size_L]
  omega
theorem b1_drop (l : List UInt8) (i j : Nat) : b1 (l.drop i) j = b1 l (i + j) := by
  unfold b1
  congr 1
  simp only [List.getD, List.getElem?_drop]
theorem b2_drop (l : List UInt8) (i j : Nat) : b2 (l.drop i) j = b2 l (i + j) := by
  unfold b2
  rw [b1_drop, b1_drop, Nat.add_assoc]
end Go.Proofs.Ytbeelcklbdnjnaa
