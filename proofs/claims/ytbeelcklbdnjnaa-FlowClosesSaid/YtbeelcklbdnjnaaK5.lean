/-
  CUT by wip/tools/rawprune.py: what is needed of an earlier stage's text.
-/
import Derived.Test.YtbeelcklbdnjnaaK4
set_option linter.unusedVariables false
set_option linter.unusedSimpArgs false
namespace Go.Proofs.Ytbeelcklbdnjnaa
open Go.RowKit

def zeroIn : Value := .agg #[.int .i64 0, .int .i64 0, .int .i64 0, .slice none 0 0, .slice none 0 0]
theorem one_0 {pc : Nat} {r : List UInt8} (h : formP (b1 r 0) = 0) : oneP pc r = ⟨11, default, 0⟩ := by unfold oneP; simp only; rw [if_pos h]
theorem one_45 {pc : Nat} {r : List UInt8} (h : formP (b1 r 0) = 45) : oneP pc r = ⟨0, ⟨pc, (b1 r 0 : Nat), 0, [], []⟩, 1⟩ := by unfold oneP; simp only; rw [h]; simp
theorem one_98 {pc : Nat} {r : List UInt8} (h : formP (b1 r 0) = 98) (h2 : 2 ≤ r.length) : oneP pc r = ⟨0, ⟨pc, (b1 r 0 : Nat), (b1 r 1 : Nat), [], []⟩, 2⟩ := by unfold oneP; simp only; rw [h]; simp; omega
theorem one_98n {pc : Nat} {r : List UInt8} (h : formP (b1 r 0) = 98) (h2 : r.length < 2) : oneP pc r = ⟨5, default, 0⟩ := by unfold oneP; simp only; rw [h]; simp; omega
theorem one_110 {pc : Nat} {r : List UInt8} (h : formP (b1 r 0) = 110) (h2 : 3 ≤ r.length) : oneP pc r = ⟨0, ⟨pc, (b1 r 0 : Nat), b2 r 1, [], []⟩, 3⟩ := by unfold oneP; simp only; rw [h]; simp; omega
theorem one_110n {pc : Nat} {r : List UInt8} (h : formP (b1 r 0) = 110) (h2 : r.length < 3) : oneP pc r = ⟨5, default, 0⟩ := by unfold oneP; simp only; rw [h]; simp; omega
theorem one_106 {pc : Nat} {r : List UInt8} (h : formP (b1 r 0) = 106) (h2 : 3 ≤ r.length) : oneP pc r = ⟨0, ⟨pc, (b1 r 0 : Nat), 0, [], [(pc : Int) + s16 (b2 r 1)]⟩, 3⟩ := by unfold oneP; simp only; rw [h]; simp; omega
theorem one_106n {pc : Nat} {r : List UInt8} (h : formP (b1 r 0) = 106) (h2 : r.length < 3) : oneP pc r = ⟨5, default, 0⟩ := by unfold oneP; simp only; rw [h]; simp; omega
theorem one_115 {pc : Nat} {r : List UInt8} (h : formP (b1 r 0) = 115) (h2 : 5 + 4 * (b2 r 3).toNat ≤ r.length) : oneP pc r = ⟨0, ⟨pc, (b1 r 0 : Nat), 0, keysP r (b2 r 3).toNat, ((pc : Int) + s16 (b2 r 1)) :: tosP pc r (b2 r 3).toNat⟩, 5 + 4 * (b2 r 3).toNat⟩ := by
  unfold oneP
  simp only
  rw [if_neg (by rw [h]; decide), if_neg (by rw [h]; decide), if_neg (by rw [h]; decide), if_neg (by rw [h]; decide), if_neg (by rw [h]; decide), if_neg (by omega), if_neg (by omega)]
theorem one_115n {pc : Nat} {r : List UInt8} (h : formP (b1 r 0) = 115) (h2 : r.length < 5 + 4 * (b2 r 3).toNat) : oneP pc r = ⟨5, default, 0⟩ := by
  unfold oneP
  simp only
  rw [if_neg (by rw [h]; decide), if_neg (by rw [h]; decide), if_neg (by rw [h]; decide), if_neg (by rw [h]; decide), if_neg (by rw [h]; decide)]
  split
  · rfl
  · first | rfl | rw [if_pos h2]
theorem one_115s {pc : Nat} {r : List UInt8} (h : formP (b1 r 0) = 115) (h2 : r.length < 5) : oneP pc r = ⟨5, default, 0⟩ := one_115n h (by omega)
end Go.Proofs.Ytbeelcklbdnjnaa
