/-
  WALKS of the arena's questions: Raw, Fits, Size; Read and Write.
-/
import Derived.Test.YtmgpimibnogcaaaW7
set_option linter.unusedVariables false
set_option linter.unusedSimpArgs false
namespace Go.Proofs.Ytmgpimibnogcaaa
open Go.RowKit

section
variable {q p b : Nat} {ws : List Int} {ah : List Nat} {P : Nat → Prop} {w : World}
theorem Mem.box (h : Mem q p b ws ah P w) : w.cell? ⟨q, 0, none⟩ = some (.slice (some ⟨p, 0, none⟩) ws.length ws.length) ∧ q < w.heap.size ∧ p < w.heap.size := by
  obtain ⟨bs, fr, h1, _⟩ := h
  exact ⟨h1.box0, h1.lt.1, h1.lt.2.1⟩
theorem Mem.word (h : Mem q p b ws ah P w) {a : Nat} {v : Int} (hv : ws[a]? = some v) : w.cell? ⟨p, a, none⟩ = some (.int .i64 v) ∧ w.frozen? ⟨p, a, none⟩ = false := by
  obtain ⟨bs, fr, h1, _⟩ := h
  exact ⟨h1.word hv, (h1.frozen a).2.1⟩
theorem Mem.store (h : Mem q p b ws ah P w) (a : Nat) (v : Int) (ha : ¬ P a) : Mem q p b (ws.set a v) ah P (w.setCell ⟨p, a, none⟩ (.int .i64 v)) := by
  obtain ⟨bs, fr, h1, h2, h3, h4⟩ := h
  have hw : ∀ x, P x → (ws.set a v)[x]? = ws[x]? := fun x hx => List.getElem?_set_ne (fun e => ha (by rw [e]; exact hx))
  exact ⟨bs, fr, h1.set_word a v, h2, h3.words hw, fun x hx => by rw [hw x hx]; exact h4 x hx⟩
set_option maxRecDepth 1000000 in
set_option maxHeartbeats 3200000 in
theorem raw_any (h : Mem q p b ws ah P w) (i : Int) :
    Calls Try.prog 23 #[.pointer (some ⟨q, 0, none⟩), .int .i64 i] w fun e w' => e = .returned (if 0 ≤ i ∧ i < ws.length then .tuple #[.int .i64 (ws[i.toNat]?.getD 0), .bool true] else .tuple #[.int .i64 0, .bool false]) ∧ w' = w := by
  obtain ⟨hn1, hn2⟩ := h.n
  obtain ⟨c0, l1, l2⟩ := h.box
  by_cases h0 : 0 ≤ i
  · obtain ⟨a, rfl⟩ : ∃ a : Nat, i = a := ⟨i.toNat, by omega⟩
    rw [Int.toNat_natCast]
    by_cases h1 : a < ws.length
    · have h1i : (a : Int) < (ws.length : Int) := by omega
      obtain ⟨v, hv⟩ : ∃ v, ws[a]? = some v := ⟨_, List.getElem?_eq_getElem h1⟩
      obtain ⟨c1, _⟩ := h.word hv
      rw [if_pos ⟨h0, h1i⟩, hv]
      rw [Option.getD_some]
      clear h hv h1
      generalize ws.length = n at *
      go_enter Try.func23, Try.ntmps23
      go_wp2
      go_ret2
      exact ⟨rfl, rfl⟩
    · have h1i : (ws.length : Int) ≤ (a : Int) := by omega
      rw [if_neg (by omega)]
      clear h h1
      generalize ws.length = n at *
      go_enter Try.func23, Try.ntmps23
      go_wp2
      go_ret2
      exact ⟨rfl, rfl⟩
  · rw [if_neg (by omega)]
    have h1 : i < 0 := by omega
    clear h h0
    generalize ws.length = n at *
    go_enter Try.func23, Try.ntmps23
    go_wp2
    go_ret2
    exact ⟨rfl, rfl⟩
set_option maxRecDepth 1000000 in
set_option maxHeartbeats 3200000 in
theorem fits_any (h : Mem q p b ws ah P w) (n : Int) :
    Calls Try.prog 16 #[.pointer (some ⟨q, 0, none⟩), .int .i64 n] w fun e w' => (¬ (1 ≤ n ∧ n ≤ 1048576) ∧ e = .returned (.bool false) ∧ w' = w) ∨ ((1 ≤ n ∧ n ≤ 1048576) ∧ ∃ r : Nat, Best ws P (n.toNat + 1) r ∧ e = .returned (.bool (decide (r ≠ 0))) ∧ ∃ k, w' = w.drewN k) := by
  have HIS := Lib.hid (fun W => isBody_any n W)
  by_cases hn : 1 ≤ n ∧ n ≤ 1048576
  · rw [decide_eq_true hn.1, decide_eq_true hn.2] at HIS
    simp only [Bool.and_self] at HIS
    obtain ⟨m, rfl⟩ : ∃ m : Nat, n = m := ⟨n.toNat, by omega⟩
    rw [Int.toNat_natCast]
    have hm : 1 ≤ m ∧ m ≤ 1048576 := by omega
    have HB1 := best_any q p b ws ah P w h (m + 1) (by omega)
    rw [show (((m + 1 : Nat)) : Int) = 1 + (m : Int) by omega] at HB1
    have HB := Lib.hid HB1
    have HN := Lib.hid hn
    clear h hn HB1
    go_enter Try.func16, Try.ntmps16
    go_wp2_with fail
    refine (HIS.out _).mono ?_
    rintro e w' ⟨rfl, rfl⟩
    go_wp2_with fail
    refine (HB.out).mono ?_
    rintro e w1 ⟨r, rfl, hb, hk⟩
    have HBE := Lib.hid hb
    have HK := Lib.hid hk
    clear hb hk
    by_cases hr : r = 0
    · subst hr
      go_wp2
      go_ret
      exact .inr ⟨HN.out, 0, HBE.out, rfl, HK.out⟩
    · have hrz : ((r : Int) == 0) = false := by rw [beq_eq_false_iff_ne]; omega
      have hrz2 : ((r : Int) != 0) = true := by rw [bne, hrz]; rfl
      have hd : decide (r ≠ 0) = true := decide_eq_true hr
      have HD := Lib.hid hd
      have HR := Lib.hid hr
      clear hd hr
      go_wp2
      go_ret
      exact .inr ⟨HN.out, r, HBE.out, by rw [HD.out]; rfl, HK.out⟩
  · have hd : (decide (1 ≤ n) && decide (n ≤ 1048576)) = false := by
      rw [Bool.and_eq_false_iff, decide_eq_false_iff_not, decide_eq_false_iff_not]
      omega
    rw [hd] at HIS
    have HN := Lib.hid hn
    clear hn hd h
    go_enter Try.func16, Try.ntmps16
    go_wp2_with fail
    refine (HIS.out _).mono ?_
    rintro e w' ⟨rfl, rfl⟩
    go_wp2
    go_ret
    exact .inl ⟨HN.out, rfl, rfl⟩
set_option maxRecDepth 1000000 in
set_option maxHeartbeats 3200000 in
theorem sizeOf_none (h : Mem q p b ws ah P w) (hg : Good ws ah) (at_ : Int) (hi : isW ws ah 1 at_ = false) :
    Calls Try.prog 18 #[.pointer (some ⟨q, 0, none⟩), .int .i64 at_] w fun e w' => e = .returned (.tuple #[.int .i64 0, .bool false]) ∧ w' = w := by
  have HI := Lib.hid (is_any q p b ws ah P w h hg 1 at_)
  rw [hi] at HI
  clear h hg hi
  go_enter Try.func18, Try.ntmps18
  go_wp2_with fail
  refine (HI.out).mono ?_
  rintro e w' ⟨rfl, rfl⟩
  go_wp2
  go_ret2
  exact ⟨rfl, rfl⟩
set_option maxRecDepth 1000000 in
set_option maxHeartbeats 3200000 in
theorem sizeOf_used (h : Mem q p b ws ah P w) (hg : Good ws ah) (a : Nat) (v : Int) (hi : isW ws ah 1 (a : Int) = true) (hv : ws[a]? = some v) (hv0 : 4 ≤ v) (hv1 : v < 2097152) (hl : a + szW ws a ≤ ws.length) :
    Calls Try.prog 18 #[.pointer (some ⟨q, 0, none⟩), .int .i64 (a : Int)] w fun e w' => e = .returned (.tuple #[.int .i64 ((szW ws a - 1 : Nat) : Int), .bool true]) ∧ ∃ n, w' = w.drewN n := by
  have HI := Lib.hid (is_any q p b ws ah P w h hg 1 (a : Int))
  rw [hi] at HI
  have HB := Lib.hid (body_mem h a v hv hv0 hv1 hl)
  clear h hg hi hv hl
  generalize szW ws a - 1 = L at *
  go_enter Try.func18, Try.ntmps18
  go_wp2_with fail
  refine (HI.out).mono ?_
  rintro e w' ⟨rfl, rfl⟩
  go_wp2_with fail
  refine (HB.out).mono ?_
  rintro e w1 ⟨rfl, hk⟩
  have HK := Lib.hid hk
  clear hk
  go_wp2
  go_ret2
  exact ⟨rfl, HK.out⟩
set_option maxRecDepth 1000000 in
set_option maxHeartbeats 3200000 in
theorem wordErr_none (h : Mem q p b ws ah P w) (hg : Good ws ah) (at_ i : Int) (hi : isW ws ah 1 at_ = false) :
    Calls Try.prog 45 #[.pointer (some ⟨q, 0, none⟩), .int .i64 at_, .int .i64 i] w fun e w' => e = .returned (.int .i64 24) ∧ w' = w := by
  have HI := Lib.hid (is_any q p b ws ah P w h hg 1 at_)
  rw [hi] at HI
  clear h hg hi
  go_enter Try.func45, Try.ntmps45
  go_wp2_with fail
  refine (HI.out).mono ?_
  rintro e w' ⟨rfl, rfl⟩
  go_wp2
  go_ret
  exact ⟨rfl, rfl⟩
set_option maxRecDepth 1000000 in
set_option maxHeartbeats 3200000 in
theorem wordErr_used (h : Mem q p b ws ah P w) (hg : Good ws ah) (a : Nat) (v i : Int) (hi : isW ws ah 1 (a : Int) = true) (hv : ws[a]? = some v) (hv0 : 4 ≤ v) (hv1 : v < 2097152) (hl : a + szW ws a ≤ ws.length) :
    Calls Try.prog 45 #[.pointer (some ⟨q, 0, none⟩), .int .i64 (a : Int), .int .i64 i] w fun e w' => e = .returned (.int .i64 (if 0 ≤ i ∧ i < ((szW ws a - 1 : Nat) : Int) then 0 else 1)) ∧ ∃ n, w' = w.drewN n := by
  have HI := Lib.hid (is_any q p b ws ah P w h hg 1 (a : Int))
  rw [hi] at HI
  have HB := Lib.hid (body_mem h a v hv hv0 hv1 hl)
  clear h hg hi hv hl
  generalize szW ws a - 1 = L at *
  by_cases h0 : 0 ≤ i
  · by_cases h1 : i < (L : Int)
    · rw [if_pos ⟨h0, h1⟩]
      go_enter Try.func45, Try.ntmps45
      go_wp2_with fail
      refine (HI.out).mono ?_
      rintro e w' ⟨rfl, rfl⟩
      go_wp2_with fail
      refine (HB.out).mono ?_
      rintro e w1 ⟨rfl, hk⟩
      have HK := Lib.hid hk
      clear hk
      go_wp2
      go_ret
      exact ⟨rfl, HK.out⟩
    · rw [if_neg (by omega)]
      have h2 : (L : Int) ≤ i := by omega
      clear h1
      go_enter Try.func45, Try.ntmps45
      go_wp2_with fail
      refine (HI.out).mono ?_
      rintro e w' ⟨rfl, rfl⟩
      go_wp2_with fail
      refine (HB.out).mono ?_
      rintro e w1 ⟨rfl, hk⟩
      have HK := Lib.hid hk
      clear hk
      go_wp2
      go_ret
      exact ⟨rfl, HK.out⟩
  · rw [if_neg (by omega)]
    have h2 : i < 0 := by omega
    clear h0
    go_enter Try.func45, Try.ntmps45
    go_wp2_with fail
    refine (HI.out).mono ?_
    rintro e w' ⟨rfl, rfl⟩
    go_wp2
    go_ret
    exact ⟨rfl, 0, rfl⟩
end
end Go.Proofs.Ytmgpimibnogcaaa
