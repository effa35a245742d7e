/-
  WALKS of Read and Write.
-/
import Derived.Test.YtmgpimibnogcaaaW8
set_option linter.unusedVariables false
set_option linter.unusedSimpArgs false
namespace Go.Proofs.Ytmgpimibnogcaaa
open Go.RowKit

section
variable {q p b : Nat} {ws : List Int} {ah : List Nat} {P : Nat → Prop} {w : World}
set_option maxRecDepth 1000000 in
set_option maxHeartbeats 3200000 in
theorem read_none (h : Mem q p b ws ah P w) (hg : Good ws ah) (at_ i : Int) (hi : isW ws ah 1 at_ = false) :
    Calls Try.prog 26 #[.pointer (some ⟨q, 0, none⟩), .int .i64 at_, .int .i64 i] w fun e w' => e = .returned (.tuple #[.int .i64 0, .int .i64 24]) ∧ w' = w := by
  have HE := Lib.hid (wordErr_none h hg at_ i hi)
  clear h hg hi
  go_enter Try.func26, Try.ntmps26
  go_wp2_with fail
  refine (HE.out).mono ?_
  rintro e w' ⟨rfl, rfl⟩
  go_wp2
  go_ret2
  exact ⟨rfl, rfl⟩
set_option maxRecDepth 1000000 in
set_option maxHeartbeats 3200000 in
theorem read_bad (h : Mem q p b ws ah P w) (hg : Good ws ah) (a : Nat) (v i : Int) (hi : isW ws ah 1 (a : Int) = true) (hv : ws[a]? = some v) (hv0 : 4 ≤ v) (hv1 : v < 2097152) (hl : a + szW ws a ≤ ws.length) (hb : ¬ (0 ≤ i ∧ i < ((szW ws a - 1 : Nat) : Int))) :
    Calls Try.prog 26 #[.pointer (some ⟨q, 0, none⟩), .int .i64 (a : Int), .int .i64 i] w fun e w' => e = .returned (.tuple #[.int .i64 0, .int .i64 1]) ∧ ∃ n, w' = w.drewN n := by
  have he := wordErr_used h hg a v i hi hv hv0 hv1 hl
  rw [if_neg hb] at he
  have HE := Lib.hid he
  clear h hg hi hv hl hb he
  go_enter Try.func26, Try.ntmps26
  go_wp2_with fail
  refine (HE.out).mono ?_
  rintro e w1 ⟨rfl, hk⟩
  have HK := Lib.hid hk
  clear hk
  go_wp2
  go_ret2
  exact ⟨rfl, HK.out⟩
set_option maxRecDepth 1000000 in
set_option maxHeartbeats 3200000 in
theorem read_ok (h : Mem q p b ws ah P w) (hg : Good ws ah) (a j : Nat) (v u : Int) (hi : isW ws ah 1 (a : Int) = true) (hv : ws[a]? = some v) (hv0 : 4 ≤ v) (hv1 : v < 2097152) (hl : a + szW ws a ≤ ws.length) (hb : j < szW ws a - 1) (hu : ws[a + 1 + j]? = some u) :
    Calls Try.prog 26 #[.pointer (some ⟨q, 0, none⟩), .int .i64 (a : Int), .int .i64 (j : Int)] w fun e w' => e = .returned (.tuple #[.int .i64 u, .int .i64 0]) ∧ ∃ n, w' = w.drewN n := by
  obtain ⟨hn1, hn2⟩ := h.n
  have he := wordErr_used h hg a v (j : Int) hi hv hv0 hv1 hl
  rw [if_pos ⟨by omega, by omega⟩] at he
  have HE := Lib.hid he
  have HB := Lib.hid (fun W (h : Mem q p b ws ah P W) => body_mem h a v hv hv0 hv1 hl)
  have M0 := Lib.hid h
  have HU := Lib.hid hu
  have hLb : szW ws a - 1 ≤ 1048576 := by omega
  clear h hg hi hv hl he hu
  generalize szW ws a - 1 = L at *
  have hbi : (j : Int) < (L : Int) := by omega
  go_enter Try.func26, Try.ntmps26
  go_wp2_with fail
  refine (HE.out).mono ?_
  rintro e w1 ⟨rfl, n, hk⟩
  have M1 := Lib.hid (show Mem q p b ws ah P w1 by rw [hk]; exact M0.out.drewN n)
  have HK := Lib.hid hk
  clear hk
  have HB1 := Lib.hid (HB.out _ M1.out)
  go_wp2_with fail
  refine (HB1.out).mono ?_
  rintro e w2 ⟨rfl, n2, hk⟩
  have M2 := Lib.hid (show Mem q p b ws ah P w2 by rw [hk]; exact M1.out.drewN n2)
  have HK2 := Lib.hid (show ∃ n, w2 = w.drewN n from ⟨n + n2, by rw [hk, HK.out, drewN_two]⟩)
  clear hk
  obtain ⟨c1, _⟩ := M2.out.word HU.out
  obtain ⟨_, l1, l2⟩ := M2.out.box
  go_wp2
  go_ret2
  exact ⟨rfl, HK2.out⟩
set_option maxRecDepth 1000000 in
set_option maxHeartbeats 3200000 in
theorem write_none (h : Mem q p b ws ah P w) (hg : Good ws ah) (at_ i x : Int) (hi : isW ws ah 1 at_ = false) :
    Calls Try.prog 20 #[.pointer (some ⟨q, 0, none⟩), .int .i64 at_, .int .i64 i, .int .i64 x] w fun e w' => e = .returned (.int .i64 24) ∧ w' = w := by
  have HE := Lib.hid (wordErr_none h hg at_ i hi)
  clear h hg hi
  go_enter Try.func20, Try.ntmps20
  go_wp2_with fail
  refine (HE.out).mono ?_
  rintro e w' ⟨rfl, rfl⟩
  go_wp2
  go_ret
  exact ⟨rfl, rfl⟩
set_option maxRecDepth 1000000 in
set_option maxHeartbeats 3200000 in
theorem write_bad (h : Mem q p b ws ah P w) (hg : Good ws ah) (a : Nat) (v i x : Int) (hi : isW ws ah 1 (a : Int) = true) (hv : ws[a]? = some v) (hv0 : 4 ≤ v) (hv1 : v < 2097152) (hl : a + szW ws a ≤ ws.length) (hb : ¬ (0 ≤ i ∧ i < ((szW ws a - 1 : Nat) : Int))) :
    Calls Try.prog 20 #[.pointer (some ⟨q, 0, none⟩), .int .i64 (a : Int), .int .i64 i, .int .i64 x] w fun e w' => e = .returned (.int .i64 1) ∧ ∃ n, w' = w.drewN n := by
  have he := wordErr_used h hg a v i hi hv hv0 hv1 hl
  rw [if_neg hb] at he
  have HE := Lib.hid he
  clear h hg hi hv hl hb he
  go_enter Try.func20, Try.ntmps20
  go_wp2_with fail
  refine (HE.out).mono ?_
  rintro e w1 ⟨rfl, hk⟩
  have HK := Lib.hid hk
  clear hk
  go_wp2
  go_ret
  exact ⟨rfl, HK.out⟩
set_option maxRecDepth 1000000 in
set_option maxHeartbeats 3200000 in
theorem write_ok (h : Mem q p b ws ah P w) (hg : Good ws ah) (a j : Nat) (v x : Int) (hi : isW ws ah 1 (a : Int) = true) (hv : ws[a]? = some v) (hv0 : 4 ≤ v) (hv1 : v < 2097152) (hl : a + szW ws a ≤ ws.length) (hb : j < szW ws a - 1) (hP : ¬ P (a + 1 + j)) :
    Calls Try.prog 20 #[.pointer (some ⟨q, 0, none⟩), .int .i64 (a : Int), .int .i64 (j : Int), .int .i64 x] w fun e w' => e = .returned (.int .i64 0) ∧ Mem q p b (ws.set (a + 1 + j) x) ah P w' ∧ Upd [p] w w' := by
  obtain ⟨hn1, hn2⟩ := h.n
  obtain ⟨u, hu⟩ : ∃ u, ws[a + 1 + j]? = some u := ⟨_, List.getElem?_eq_getElem (by omega)⟩
  have he := wordErr_used h hg a v (j : Int) hi hv hv0 hv1 hl
  rw [if_pos ⟨by omega, by omega⟩] at he
  have HE := Lib.hid he
  have HB := Lib.hid (fun W (h : Mem q p b ws ah P W) => body_mem h a v hv hv0 hv1 hl)
  have M0 := Lib.hid h
  have HU := Lib.hid hu
  have HPP := Lib.hid hP
  have hLb : szW ws a - 1 ≤ 1048576 := by omega
  clear h hg hi hv hl he hu hP
  generalize szW ws a - 1 = L at *
  have hbi : (j : Int) < (L : Int) := by omega
  go_enter Try.func20, Try.ntmps20
  go_wp2_with fail
  refine (HE.out).mono ?_
  rintro e w1 ⟨rfl, n, hk⟩
  have M1 := Lib.hid (show Mem q p b ws ah P w1 by rw [hk]; exact M0.out.drewN n)
  have U1 := Lib.hid (show Upd [p] w w1 by rw [hk]; exact (Upd.refl _ _).drewN n)
  clear hk
  have HB1 := Lib.hid (HB.out _ M1.out)
  go_wp2_with fail
  refine (HB1.out).mono ?_
  rintro e w2 ⟨rfl, n2, hk⟩
  have M2 := Lib.hid (show Mem q p b ws ah P w2 by rw [hk]; exact M1.out.drewN n2)
  have U2 := Lib.hid (show Upd [p] w w2 by rw [hk]; exact U1.out.drewN n2)
  clear hk
  obtain ⟨c1, hf⟩ := M2.out.word HU.out
  obtain ⟨_, l1, l2⟩ := M2.out.box
  go_wp2
  go_ret
  exact ⟨rfl, M2.out.store (a + 1 + j) x HPP.out, U2.out.trans (Upd.set (by simp))⟩
end
end Go.Proofs.Ytmgpimibnogcaaa
