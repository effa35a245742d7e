/-
  WALKS of the arena's small parts: size, state, keys, ranks, classes.
-/
import Derived.Test.YtmgpimibnogcaaaMem
import Derived.Test.YtmgpimibnogcaaaBt
set_option linter.unusedVariables false
set_option linter.unusedSimpArgs false
namespace Go.Proofs.Ytmgpimibnogcaaa
open Go.RowKit

section
variable {q p b : Nat} {ws : List Int} {bs : List Bk} {fr : List Nat} {w : World}
theorem szW_of {ws : List Int} {a : Nat} {v : Int} (hv : ws[a]? = some v) (h0 : 0 ≤ v) : ((szW ws a : Nat) : Int) = v / 2 := by
  unfold szW
  rw [hv]
  simp only [Option.getD_some]
  omega
set_option maxRecDepth 1000000 in
set_option maxHeartbeats 1600000 in
theorem size_any (h : AB q p b ws bs fr w) (a : Nat) (v : Int) (hv : ws[a]? = some v) (h0 : 0 ≤ v) (h1 : v ≤ 2097152) :
    Calls Try.prog 40 #[.pointer (some ⟨q, 0, none⟩), .int .i64 (a : Int)] w fun e w' => e = .returned (.int .i64 (szW ws a : Int)) ∧ w' = w := by
  have hs := szW_of hv h0
  have ha := (List.getElem?_eq_some_iff.1 hv).1
  have hai : (a : Int) < (ws.length : Int) := by omega
  have c0 := h.box0
  have c1 := h.word hv
  obtain ⟨l1, l2, l3⟩ := h.lt
  have HS := Lib.hid hs
  clear hs
  generalize (szW ws a : Int) = S at *
  clear h hv
  generalize ws.length = n at *
  go_enter Try.func40, Try.ntmps40
  go_wp2
  go_ret
  exact ⟨by rw [HS.out]; rfl, rfl⟩
set_option maxRecDepth 1000000 in
set_option maxHeartbeats 1600000 in
theorem state_any (h : AB q p b ws bs fr w) (a : Nat) (v : Int) (hv : ws[a]? = some v) (h0 : 0 ≤ v) (h1 : v ≤ 2097152) :
    Calls Try.prog 46 #[.pointer (some ⟨q, 0, none⟩), .int .i64 (a : Int)] w fun e w' => e = .returned (.int .i64 (v % 2)) ∧ w' = w := by
  have ha := (List.getElem?_eq_some_iff.1 hv).1
  have hai : (a : Int) < (ws.length : Int) := by omega
  have c0 := h.box0
  have c1 := h.word hv
  obtain ⟨l1, l2, l3⟩ := h.lt
  clear h hv
  generalize ws.length = n at *
  go_enter Try.func46, Try.ntmps46
  go_wp2
  go_ret
  exact ⟨rfl, rfl⟩
set_option maxRecDepth 1000000 in
set_option maxHeartbeats 1600000 in
theorem sizeKey_any (s : Nat) (hs : s ≤ 1000000000000) (w : World) :
    Calls Try.prog 52 #[.int .i64 (s : Int)] w fun e w' => e = .returned (.int .i64 ((s : Int) * 1048576)) ∧ w' = w := by
  go_enter Try.func52, Try.ntmps52
  go_wp2
  go_ret
  exact ⟨rfl, rfl⟩
set_option maxRecDepth 1000000 in
set_option maxHeartbeats 1600000 in
theorem key_any (h : AB q p b ws bs fr w) (a : Nat) (v : Int) (hv : ws[a]? = some v) (h0 : 0 ≤ v) (h1 : v ≤ 2097152) :
    Calls Try.prog 54 #[.pointer (some ⟨q, 0, none⟩), .int .i64 (a : Int)] w fun e w' => e = .returned (.int .i64 (keyW ws a)) ∧ w' = w := by
  have hs := szW_of hv h0
  have ha := (List.getElem?_eq_some_iff.1 hv).1
  have hn := h.n2
  have HS := Lib.hid (size_any h a v hv h0 h1)
  have HK := Lib.hid (show keyW ws a = (szW ws a : Int) * 1048576 + a from rfl)
  have hsb : szW ws a ≤ 1048576 := by omega
  clear hs
  generalize keyW ws a = K at *
  generalize szW ws a = S at *
  clear h hv
  go_enter Try.func54, Try.ntmps54
  go_wp2_with fail
  refine (HS.out).mono ?_
  rintro e w' ⟨rfl, rfl⟩
  go_wp2_with fail
  refine (sizeKey_any S (by omega) _).mono ?_
  rintro e w' ⟨rfl, rfl⟩
  go_wp2
  go_ret
  exact ⟨by rw [HK.out]; rfl, rfl⟩
set_option maxRecDepth 1000000 in
set_option maxHeartbeats 1600000 in
theorem rank_any (a : Nat) (ha : a ≤ 1048576) (w : World) :
    Calls Try.prog 57 #[.int .i64 (a : Int)] w fun e w' => ∃ r : Int, e = .returned (.int .u32 r) ∧ w' = w := by
  go_enter Try.func57, Try.ntmps57
  go_wp2
  go_ret
  exact ⟨_, rfl, rfl⟩
set_option maxRecDepth 1000000 in
set_option maxHeartbeats 1600000 in
theorem class_any (s : Nat) (hs : s < 16777216) (w : World) :
    Calls Try.prog 50 #[.int .i64 (s : Int)] w fun e w' => e = .returned (.int .i64 (cls s : Int)) ∧ w' = w := by
  have HB := Lib.hid (fun W => bits_any (s : Int) W (by omega) (by omega))
  rw [Int.toNat_natCast] at HB
  have hsi : (s : Int) < 16777216 := by omega
  go_enter Try.func50, Try.ntmps50
  go_wp2_with fail
  refine (HB.out _).mono ?_
  rintro e w' ⟨rfl, rfl⟩
  go_wp2
  go_ret
  exact ⟨rfl, rfl⟩
end
end Go.Proofs.Ytmgpimibnogcaaa
