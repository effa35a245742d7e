/-
  WALKS of the errors of a member: its head, what it has besides, a name that asks for a form.
-/
import Derived.Test.YtcgloepfnnfioaaE5
import Derived.Laws.BitsAllLaws
set_option linter.unusedVariables false
set_option linter.unusedSimpArgs false
namespace Go.Proofs.Ytcgloepfnnfioaa
open Go.RowKit

/-- The error of a member's flags, which go up to last, of its name, and of its descriptor. -/
def hdE (p : List Cn) (ffl last : Int) (E : ByteArray → Int) (m : Mb) : Int :=
  if m.fl < 0 ∨ last < m.fl ∨ (m.fl = 0 ∧ ffl = 3) then 10 else if tagged p m.nm 1 = true ∧ tagged p m.ds 1 = true then pairE p m.nm m.ds E else 7
theorem bit_fl {z : Int} (h : z = 0 ∨ z = 2 ∨ z = 3) : bits .and .i64 z 1 = if z = 3 then 1 else 0 := by
  rcases h with rfl | rfl | rfl <;> decide
set_option maxRecDepth 1000000 in
set_option maxHeartbeats 6400000 in
theorem headErr_any {B : Nat} (f : Fl) (v : Value) (w : World) (hf : FileAt B w v f) (hB : B ≤ w.heap.size) (ht : Texts f.pool) (hfl : f.fl = 0 ∨ f.fl = 2 ∨ f.fl = 3) (m : Mb) (A : Option Addr) (c : Nat) (last : Int) (g : FuncId) (E : ByteArray → Int) (hg : Tells g E) :
    Calls Try.prog 79 #[v, .agg #[.int .i64 m.fl, .int .i64 m.nm, .int .i64 m.ds, .int .i64 m.ms, .int .i64 m.ml, .string m.code, .slice A m.hs.length c], .int .i64 last, .func (.func g) #[] #[]] w fun e w' => e = .returned (.int .i64 (hdE f.pool f.fl last E m)) ∧ Below w.heap.size w w' := by
  obtain ⟨fl, nm, ds, ms, ml, code, hs⟩ := m
  simp only
  have HT := Lib.hid (fun r V W hW hWB i h => has_at (B := B) r f V W hW hWB i 1 h)
  have HP := Lib.hid (fun V W hW hWB => pairErr_any (B := B) f V W hW hWB ht nm ds g E hg)
  have hbit := bit_fl hfl
  obtain ⟨Ap, cp, Ai, ci, Af, cf, Am, cm, rfl, hi⟩ := id hf
  have FL := Lib.hid ((hf.alloc hB (.cells #[.slice Ap f.pool.length cp, .int .i64 f.fl, .int .i64 f.this, .int .i64 f.super, .slice Ai f.ifs.length ci, .slice Af f.fds.length cf, .slice Am f.mts.length cm] 26)).alloc (le_alloc hB _) (.cells #[.int .i64 fl, .int .i64 nm, .int .i64 ds, .int .i64 ms, .int .i64 ml, .string code, .slice A hs.length c] 38))
  have BE := Lib.hid (((Below.refl w.heap.size w).alloc (Nat.le_refl _) (.cells #[.slice Ap f.pool.length cp, .int .i64 f.fl, .int .i64 f.this, .int .i64 f.super, .slice Ai f.ifs.length ci, .slice Af f.fds.length cf, .slice Am f.mts.length cm] 26)).alloc (le_alloc (Nat.le_refl _) _) (.cells #[.int .i64 fl, .int .i64 nm, .int .i64 ds, .int .i64 ms, .int .i64 ml, .string code, .slice A hs.length c] 38))
  have BF := Lib.hid ((FBox.new Ap cp Ai ci Af cf Am cm f w).alloc (.cells #[.int .i64 fl, .int .i64 nm, .int .i64 ds, .int .i64 ms, .int .i64 ml, .string code, .slice A hs.length c] 38))
  have BM := Lib.hid (heap_new2 w (.cells #[.slice Ap f.pool.length cp, .int .i64 f.fl, .int .i64 f.this, .int .i64 f.super, .slice Ai f.ifs.length ci, .slice Af f.fds.length cf, .slice Am f.mts.length cm] 26) (.cells #[.int .i64 fl, .int .i64 nm, .int .i64 ds, .int .i64 ms, .int .i64 ml, .string code, .slice A hs.length c] 38))
  clear hi hf
  by_cases hno : fl < 0 ∨ last < fl ∨ (fl = 0 ∧ f.fl = 3)
  · have HR := Lib.hid (show hdE f.pool f.fl last E ⟨fl, nm, ds, ms, ml, code, hs⟩ = 10 by unfold hdE; rw [if_pos hno])
    generalize hdE f.pool f.fl last E ⟨fl, nm, ds, ms, ml, code, hs⟩ = R at *
    by_cases h0 : fl < 0
    · clear hno hbit hfl
      go_enter Try.func79, Try.ntmps79
      go_wp2
      go_ret
      exact ⟨ret_i HR.out.symm, BE.out⟩
    by_cases hl : last < fl
    · have h0' : 0 ≤ fl := by omega
      clear hno hbit hfl h0
      go_enter Try.func79, Try.ntmps79
      go_wp2
      go_ret
      exact ⟨ret_i HR.out.symm, BE.out⟩
    · obtain ⟨rfl, hf3⟩ : fl = 0 ∧ f.fl = 3 := by omega
      rw [if_pos hf3] at hbit
      have h0' : 0 ≤ last := by omega
      clear hno hfl h0 hf3 hl
      go_enter Try.func79, Try.ntmps79
      go_wp2
      go_ret
      exact ⟨ret_i HR.out.symm, BE.out⟩
  · have HNO := Lib.hid hno
    have h0 : 0 ≤ fl := by omega
    have hl : fl ≤ last := by omega
    by_cases hz : fl = 0
    · have hf3 : ¬ f.fl = 3 := by omega
      rw [if_neg hf3] at hbit
      subst hz
      clear hno hf3 hfl
      cases hT1 : tagged f.pool nm 1 with
      | false =>
        have HR := Lib.hid (show hdE f.pool f.fl last E ⟨0, nm, ds, ms, ml, code, hs⟩ = 7 by unfold hdE; rw [if_neg HNO.out, if_neg (by rw [hT1]; simp)])
        have HT1 := Lib.hid hT1
        clear hT1
        generalize hdE f.pool f.fl last E ⟨0, nm, ds, ms, ml, code, hs⟩ = R at *
        go_enter Try.func79, Try.ntmps79
        go_wp2_with fail
        refine (HT.out false _ _ FL.out (by simp; omega) _ HT1.out).mono ?_
        rintro e w1 ⟨rfl, hb⟩
        have BE1 := Lib.hid (Below.link BE.out hb)
        have FL1 := Lib.hid (FL.out.below hb (Nat.le_trans hB BE.out.size))
        have BF1 := Lib.hid (BF.out.below hb (by have := BF.out.lt; omega))
        have BM1 := Lib.hid (Below.keep hb (by have := lt_of_block BM.out; omega) BM.out)
        have ltf1 := BF1.out.lt
        have ltm1 := lt_of_block BM1.out
        clear hb
        obtain ⟨c0, c1, c2, c3, c4, c5, c6⟩ := BF1.out.cells
        have m0 : w1.cell? ⟨w.heap.size + 1, 0, none⟩ = some (.int .i64 0) := cells_of BM1.out 0
        have m1 : w1.cell? ⟨w.heap.size + 1, 1, none⟩ = some (.int .i64 nm) := cells_of BM1.out 1
        have m2 : w1.cell? ⟨w.heap.size + 1, 2, none⟩ = some (.int .i64 ds) := cells_of BM1.out 2
        have m3 : w1.cell? ⟨w.heap.size + 1, 3, none⟩ = some (.int .i64 ms) := cells_of BM1.out 3
        have m4 : w1.cell? ⟨w.heap.size + 1, 4, none⟩ = some (.int .i64 ml) := cells_of BM1.out 4
        have m5 : w1.cell? ⟨w.heap.size + 1, 5, none⟩ = some (.string code) := cells_of BM1.out 5
        have m6 : w1.cell? ⟨w.heap.size + 1, 6, none⟩ = some (.slice A hs.length c) := cells_of BM1.out 6
        clear c0 c1 c2 c3 c4 c5 c6 m0 m1 m2 m3 m4 m5 m6
        go_wp2
        go_ret
        exact ⟨ret_i HR.out.symm, BE1.out⟩
      | true =>
        have HT1 := Lib.hid hT1
        clear hT1
        cases hT2 : tagged f.pool ds 1 with
        | false =>
          have HR := Lib.hid (show hdE f.pool f.fl last E ⟨0, nm, ds, ms, ml, code, hs⟩ = 7 by unfold hdE; rw [if_neg HNO.out, if_neg (by rw [hT2]; simp)])
          have HT2 := Lib.hid hT2
          clear hT2
          generalize hdE f.pool f.fl last E ⟨0, nm, ds, ms, ml, code, hs⟩ = R at *
          go_enter Try.func79, Try.ntmps79
          go_wp2_with fail
          refine (HT.out true _ _ FL.out (by simp; omega) _ HT1.out).mono ?_
          rintro e w1 ⟨rfl, hb⟩
          have BE1 := Lib.hid (Below.link BE.out hb)
          have FL1 := Lib.hid (FL.out.below hb (Nat.le_trans hB BE.out.size))
          have BF1 := Lib.hid (BF.out.below hb (by have := BF.out.lt; omega))
          have BM1 := Lib.hid (Below.keep hb (by have := lt_of_block BM.out; omega) BM.out)
          have ltf1 := BF1.out.lt
          have ltm1 := lt_of_block BM1.out
          clear hb
          obtain ⟨c0, c1, c2, c3, c4, c5, c6⟩ := BF1.out.cells
          have m0 : w1.cell? ⟨w.heap.size + 1, 0, none⟩ = some (.int .i64 0) := cells_of BM1.out 0
          have m1 : w1.cell? ⟨w.heap.size + 1, 1, none⟩ = some (.int .i64 nm) := cells_of BM1.out 1
          have m2 : w1.cell? ⟨w.heap.size + 1, 2, none⟩ = some (.int .i64 ds) := cells_of BM1.out 2
          have m3 : w1.cell? ⟨w.heap.size + 1, 3, none⟩ = some (.int .i64 ms) := cells_of BM1.out 3
          have m4 : w1.cell? ⟨w.heap.size + 1, 4, none⟩ = some (.int .i64 ml) := cells_of BM1.out 4
          have m5 : w1.cell? ⟨w.heap.size + 1, 5, none⟩ = some (.string code) := cells_of BM1.out 5
          have m6 : w1.cell? ⟨w.heap.size + 1, 6, none⟩ = some (.slice A hs.length c) := cells_of BM1.out 6
          go_wp2_with fail
          refine (HT.out false _ _ FL1.out (by omega) _ HT2.out).mono ?_
          rintro e w2 ⟨rfl, hb⟩
          clear c0 c1 c2 c3 c4 c5 c6 m0 m1 m2 m3 m4 m5 m6
          have BE2 := Lib.hid (Below.link BE1.out hb)
          have FL2 := Lib.hid (FL1.out.below hb (Nat.le_trans hB BE1.out.size))
          have BF2 := Lib.hid (BF1.out.below hb (by have := BF1.out.lt; omega))
          have BM2 := Lib.hid (Below.keep hb (by have := lt_of_block BM1.out; omega) BM1.out)
          have ltf2 := BF2.out.lt
          have ltm2 := lt_of_block BM2.out
          clear hb
          obtain ⟨c0, c1, c2, c3, c4, c5, c6⟩ := BF2.out.cells
          have m0 : w2.cell? ⟨w.heap.size + 1, 0, none⟩ = some (.int .i64 0) := cells_of BM2.out 0
          have m1 : w2.cell? ⟨w.heap.size + 1, 1, none⟩ = some (.int .i64 nm) := cells_of BM2.out 1
          have m2 : w2.cell? ⟨w.heap.size + 1, 2, none⟩ = some (.int .i64 ds) := cells_of BM2.out 2
          have m3 : w2.cell? ⟨w.heap.size + 1, 3, none⟩ = some (.int .i64 ms) := cells_of BM2.out 3
          have m4 : w2.cell? ⟨w.heap.size + 1, 4, none⟩ = some (.int .i64 ml) := cells_of BM2.out 4
          have m5 : w2.cell? ⟨w.heap.size + 1, 5, none⟩ = some (.string code) := cells_of BM2.out 5
          have m6 : w2.cell? ⟨w.heap.size + 1, 6, none⟩ = some (.slice A hs.length c) := cells_of BM2.out 6
          clear c0 c1 c2 c3 c4 c5 c6 m0 m1 m2 m3 m4 m5 m6
          go_wp2
          go_ret
          exact ⟨ret_i HR.out.symm, BE2.out⟩
        | true =>
          have HR := Lib.hid (show hdE f.pool f.fl last E ⟨0, nm, ds, ms, ml, code, hs⟩ = pairE f.pool nm ds E by unfold hdE; rw [if_neg HNO.out, if_pos ⟨HT1.out, hT2⟩])
          have HT2 := Lib.hid hT2
          clear hT2
          generalize hdE f.pool f.fl last E ⟨0, nm, ds, ms, ml, code, hs⟩ = R at *
          go_enter Try.func79, Try.ntmps79
          go_wp2_with fail
          refine (HT.out true _ _ FL.out (by simp; omega) _ HT1.out).mono ?_
          rintro e w1 ⟨rfl, hb⟩
          have BE1 := Lib.hid (Below.link BE.out hb)
          have FL1 := Lib.hid (FL.out.below hb (Nat.le_trans hB BE.out.size))
          have BF1 := Lib.hid (BF.out.below hb (by have := BF.out.lt; omega))
          have BM1 := Lib.hid (Below.keep hb (by have := lt_of_block BM.out; omega) BM.out)
          have ltf1 := BF1.out.lt
          have ltm1 := lt_of_block BM1.out
          clear hb
          obtain ⟨c0, c1, c2, c3, c4, c5, c6⟩ := BF1.out.cells
          have m0 : w1.cell? ⟨w.heap.size + 1, 0, none⟩ = some (.int .i64 0) := cells_of BM1.out 0
          have m1 : w1.cell? ⟨w.heap.size + 1, 1, none⟩ = some (.int .i64 nm) := cells_of BM1.out 1
          have m2 : w1.cell? ⟨w.heap.size + 1, 2, none⟩ = some (.int .i64 ds) := cells_of BM1.out 2
          have m3 : w1.cell? ⟨w.heap.size + 1, 3, none⟩ = some (.int .i64 ms) := cells_of BM1.out 3
          have m4 : w1.cell? ⟨w.heap.size + 1, 4, none⟩ = some (.int .i64 ml) := cells_of BM1.out 4
          have m5 : w1.cell? ⟨w.heap.size + 1, 5, none⟩ = some (.string code) := cells_of BM1.out 5
          have m6 : w1.cell? ⟨w.heap.size + 1, 6, none⟩ = some (.slice A hs.length c) := cells_of BM1.out 6
          go_wp2_with fail
          refine (HT.out true _ _ FL1.out (by omega) _ HT2.out).mono ?_
          rintro e w2 ⟨rfl, hb⟩
          clear c0 c1 c2 c3 c4 c5 c6 m0 m1 m2 m3 m4 m5 m6
          have BE2 := Lib.hid (Below.link BE1.out hb)
          have FL2 := Lib.hid (FL1.out.below hb (Nat.le_trans hB BE1.out.size))
          have BF2 := Lib.hid (BF1.out.below hb (by have := BF1.out.lt; omega))
          have BM2 := Lib.hid (Below.keep hb (by have := lt_of_block BM1.out; omega) BM1.out)
          have ltf2 := BF2.out.lt
          have ltm2 := lt_of_block BM2.out
          clear hb
          obtain ⟨c0, c1, c2, c3, c4, c5, c6⟩ := BF2.out.cells
          have m0 : w2.cell? ⟨w.heap.size + 1, 0, none⟩ = some (.int .i64 0) := cells_of BM2.out 0
          have m1 : w2.cell? ⟨w.heap.size + 1, 1, none⟩ = some (.int .i64 nm) := cells_of BM2.out 1
          have m2 : w2.cell? ⟨w.heap.size + 1, 2, none⟩ = some (.int .i64 ds) := cells_of BM2.out 2
          have m3 : w2.cell? ⟨w.heap.size + 1, 3, none⟩ = some (.int .i64 ms) := cells_of BM2.out 3
          have m4 : w2.cell? ⟨w.heap.size + 1, 4, none⟩ = some (.int .i64 ml) := cells_of BM2.out 4
          have m5 : w2.cell? ⟨w.heap.size + 1, 5, none⟩ = some (.string code) := cells_of BM2.out 5
          have m6 : w2.cell? ⟨w.heap.size + 1, 6, none⟩ = some (.slice A hs.length c) := cells_of BM2.out 6
          go_wp2_with fail
          refine (HP.out _ _ FL2.out (by omega)).mono ?_
          rintro e w3 ⟨rfl, hb⟩
          clear c0 c1 c2 c3 c4 c5 c6 m0 m1 m2 m3 m4 m5 m6
          have BE3 := Lib.hid (Below.link BE2.out hb)
          have FL3 := Lib.hid (FL2.out.below hb (Nat.le_trans hB BE2.out.size))
          have BF3 := Lib.hid (BF2.out.below hb (by have := BF2.out.lt; omega))
          have BM3 := Lib.hid (Below.keep hb (by have := lt_of_block BM2.out; omega) BM2.out)
          have ltf3 := BF3.out.lt
          have ltm3 := lt_of_block BM3.out
          clear hb
          obtain ⟨c0, c1, c2, c3, c4, c5, c6⟩ := BF3.out.cells
          have m0 : w3.cell? ⟨w.heap.size + 1, 0, none⟩ = some (.int .i64 0) := cells_of BM3.out 0
          have m1 : w3.cell? ⟨w.heap.size + 1, 1, none⟩ = some (.int .i64 nm) := cells_of BM3.out 1
          have m2 : w3.cell? ⟨w.heap.size + 1, 2, none⟩ = some (.int .i64 ds) := cells_of BM3.out 2
          have m3 : w3.cell? ⟨w.heap.size + 1, 3, none⟩ = some (.int .i64 ms) := cells_of BM3.out 3
          have m4 : w3.cell? ⟨w.heap.size + 1, 4, none⟩ = some (.int .i64 ml) := cells_of BM3.out 4
          have m5 : w3.cell? ⟨w.heap.size + 1, 5, none⟩ = some (.string code) := cells_of BM3.out 5
          have m6 : w3.cell? ⟨w.heap.size + 1, 6, none⟩ = some (.slice A hs.length c) := cells_of BM3.out 6
          clear c0 c1 c2 c3 c4 c5 c6 m0 m1 m2 m3 m4 m5 m6
          go_wp2
          go_ret
          exact ⟨ret_i HR.out.symm, BE3.out⟩
    · have hz' : (fl == 0) = false := by simpa using hz
      clear hno hbit hfl hz
      cases hT1 : tagged f.pool nm 1 with
      | false =>
        have HR := Lib.hid (show hdE f.pool f.fl last E ⟨fl, nm, ds, ms, ml, code, hs⟩ = 7 by unfold hdE; rw [if_neg HNO.out, if_neg (by rw [hT1]; simp)])
        have HT1 := Lib.hid hT1
        clear hT1
        generalize hdE f.pool f.fl last E ⟨fl, nm, ds, ms, ml, code, hs⟩ = R at *
        go_enter Try.func79, Try.ntmps79
        go_wp2_with fail
        refine (HT.out false _ _ FL.out (by simp; omega) _ HT1.out).mono ?_
        rintro e w1 ⟨rfl, hb⟩
        have BE1 := Lib.hid (Below.link BE.out hb)
        have FL1 := Lib.hid (FL.out.below hb (Nat.le_trans hB BE.out.size))
        have BF1 := Lib.hid (BF.out.below hb (by have := BF.out.lt; omega))
        have BM1 := Lib.hid (Below.keep hb (by have := lt_of_block BM.out; omega) BM.out)
        have ltf1 := BF1.out.lt
        have ltm1 := lt_of_block BM1.out
        clear hb
        obtain ⟨c0, c1, c2, c3, c4, c5, c6⟩ := BF1.out.cells
        have m0 : w1.cell? ⟨w.heap.size + 1, 0, none⟩ = some (.int .i64 fl) := cells_of BM1.out 0
        have m1 : w1.cell? ⟨w.heap.size + 1, 1, none⟩ = some (.int .i64 nm) := cells_of BM1.out 1
        have m2 : w1.cell? ⟨w.heap.size + 1, 2, none⟩ = some (.int .i64 ds) := cells_of BM1.out 2
        have m3 : w1.cell? ⟨w.heap.size + 1, 3, none⟩ = some (.int .i64 ms) := cells_of BM1.out 3
        have m4 : w1.cell? ⟨w.heap.size + 1, 4, none⟩ = some (.int .i64 ml) := cells_of BM1.out 4
        have m5 : w1.cell? ⟨w.heap.size + 1, 5, none⟩ = some (.string code) := cells_of BM1.out 5
        have m6 : w1.cell? ⟨w.heap.size + 1, 6, none⟩ = some (.slice A hs.length c) := cells_of BM1.out 6
        clear c0 c1 c2 c3 c4 c5 c6 m0 m1 m2 m3 m4 m5 m6
        go_wp2
        go_ret
        exact ⟨ret_i HR.out.symm, BE1.out⟩
      | true =>
        have HT1 := Lib.hid hT1
        clear hT1
        cases hT2 : tagged f.pool ds 1 with
        | false =>
          have HR := Lib.hid (show hdE f.pool f.fl last E ⟨fl, nm, ds, ms, ml, code, hs⟩ = 7 by unfold hdE; rw [if_neg HNO.out, if_neg (by rw [hT2]; simp)])
          have HT2 := Lib.hid hT2
          clear hT2
          generalize hdE f.pool f.fl last E ⟨fl, nm, ds, ms, ml, code, hs⟩ = R at *
          go_enter Try.func79, Try.ntmps79
          go_wp2_with fail
          refine (HT.out true _ _ FL.out (by simp; omega) _ HT1.out).mono ?_
          rintro e w1 ⟨rfl, hb⟩
          have BE1 := Lib.hid (Below.link BE.out hb)
          have FL1 := Lib.hid (FL.out.below hb (Nat.le_trans hB BE.out.size))
          have BF1 := Lib.hid (BF.out.below hb (by have := BF.out.lt; omega))
          have BM1 := Lib.hid (Below.keep hb (by have := lt_of_block BM.out; omega) BM.out)
          have ltf1 := BF1.out.lt
          have ltm1 := lt_of_block BM1.out
          clear hb
          obtain ⟨c0, c1, c2, c3, c4, c5, c6⟩ := BF1.out.cells
          have m0 : w1.cell? ⟨w.heap.size + 1, 0, none⟩ = some (.int .i64 fl) := cells_of BM1.out 0
          have m1 : w1.cell? ⟨w.heap.size + 1, 1, none⟩ = some (.int .i64 nm) := cells_of BM1.out 1
          have m2 : w1.cell? ⟨w.heap.size + 1, 2, none⟩ = some (.int .i64 ds) := cells_of BM1.out 2
          have m3 : w1.cell? ⟨w.heap.size + 1, 3, none⟩ = some (.int .i64 ms) := cells_of BM1.out 3
          have m4 : w1.cell? ⟨w.heap.size + 1, 4, none⟩ = some (.int .i64 ml) := cells_of BM1.out 4
          have m5 : w1.cell? ⟨w.heap.size + 1, 5, none⟩ = some (.string code) := cells_of BM1.out 5
          have m6 : w1.cell? ⟨w.heap.size + 1, 6, none⟩ = some (.slice A hs.length c) := cells_of BM1.out 6
          go_wp2_with fail
          refine (HT.out false _ _ FL1.out (by omega) _ HT2.out).mono ?_
          rintro e w2 ⟨rfl, hb⟩
          clear c0 c1 c2 c3 c4 c5 c6 m0 m1 m2 m3 m4 m5 m6
          have BE2 := Lib.hid (Below.link BE1.out hb)
          have FL2 := Lib.hid (FL1.out.below hb (Nat.le_trans hB BE1.out.size))
          have BF2 := Lib.hid (BF1.out.below hb (by have := BF1.out.lt; omega))
          have BM2 := Lib.hid (Below.keep hb (by have := lt_of_block BM1.out; omega) BM1.out)
          have ltf2 := BF2.out.lt
          have ltm2 := lt_of_block BM2.out
          clear hb
          obtain ⟨c0, c1, c2, c3, c4, c5, c6⟩ := BF2.out.cells
          have m0 : w2.cell? ⟨w.heap.size + 1, 0, none⟩ = some (.int .i64 fl) := cells_of BM2.out 0
          have m1 : w2.cell? ⟨w.heap.size + 1, 1, none⟩ = some (.int .i64 nm) := cells_of BM2.out 1
          have m2 : w2.cell? ⟨w.heap.size + 1, 2, none⟩ = some (.int .i64 ds) := cells_of BM2.out 2
          have m3 : w2.cell? ⟨w.heap.size + 1, 3, none⟩ = some (.int .i64 ms) := cells_of BM2.out 3
          have m4 : w2.cell? ⟨w.heap.size + 1, 4, none⟩ = some (.int .i64 ml) := cells_of BM2.out 4
          have m5 : w2.cell? ⟨w.heap.size + 1, 5, none⟩ = some (.string code) := cells_of BM2.out 5
          have m6 : w2.cell? ⟨w.heap.size + 1, 6, none⟩ = some (.slice A hs.length c) := cells_of BM2.out 6
          clear c0 c1 c2 c3 c4 c5 c6 m0 m1 m2 m3 m4 m5 m6
          go_wp2
          go_ret
          exact ⟨ret_i HR.out.symm, BE2.out⟩
        | true =>
          have HR := Lib.hid (show hdE f.pool f.fl last E ⟨fl, nm, ds, ms, ml, code, hs⟩ = pairE f.pool nm ds E by unfold hdE; rw [if_neg HNO.out, if_pos ⟨HT1.out, hT2⟩])
          have HT2 := Lib.hid hT2
          clear hT2
          generalize hdE f.pool f.fl last E ⟨fl, nm, ds, ms, ml, code, hs⟩ = R at *
          go_enter Try.func79, Try.ntmps79
          go_wp2_with fail
          refine (HT.out true _ _ FL.out (by simp; omega) _ HT1.out).mono ?_
          rintro e w1 ⟨rfl, hb⟩
          have BE1 := Lib.hid (Below.link BE.out hb)
          have FL1 := Lib.hid (FL.out.below hb (Nat.le_trans hB BE.out.size))
          have BF1 := Lib.hid (BF.out.below hb (by have := BF.out.lt; omega))
          have BM1 := Lib.hid (Below.keep hb (by have := lt_of_block BM.out; omega) BM.out)
          have ltf1 := BF1.out.lt
          have ltm1 := lt_of_block BM1.out
          clear hb
          obtain ⟨c0, c1, c2, c3, c4, c5, c6⟩ := BF1.out.cells
          have m0 : w1.cell? ⟨w.heap.size + 1, 0, none⟩ = some (.int .i64 fl) := cells_of BM1.out 0
          have m1 : w1.cell? ⟨w.heap.size + 1, 1, none⟩ = some (.int .i64 nm) := cells_of BM1.out 1
          have m2 : w1.cell? ⟨w.heap.size + 1, 2, none⟩ = some (.int .i64 ds) := cells_of BM1.out 2
          have m3 : w1.cell? ⟨w.heap.size + 1, 3, none⟩ = some (.int .i64 ms) := cells_of BM1.out 3
          have m4 : w1.cell? ⟨w.heap.size + 1, 4, none⟩ = some (.int .i64 ml) := cells_of BM1.out 4
          have m5 : w1.cell? ⟨w.heap.size + 1, 5, none⟩ = some (.string code) := cells_of BM1.out 5
          have m6 : w1.cell? ⟨w.heap.size + 1, 6, none⟩ = some (.slice A hs.length c) := cells_of BM1.out 6
          go_wp2_with fail
          refine (HT.out true _ _ FL1.out (by omega) _ HT2.out).mono ?_
          rintro e w2 ⟨rfl, hb⟩
          clear c0 c1 c2 c3 c4 c5 c6 m0 m1 m2 m3 m4 m5 m6
          have BE2 := Lib.hid (Below.link BE1.out hb)
          have FL2 := Lib.hid (FL1.out.below hb (Nat.le_trans hB BE1.out.size))
          have BF2 := Lib.hid (BF1.out.below hb (by have := BF1.out.lt; omega))
          have BM2 := Lib.hid (Below.keep hb (by have := lt_of_block BM1.out; omega) BM1.out)
          have ltf2 := BF2.out.lt
          have ltm2 := lt_of_block BM2.out
          clear hb
          obtain ⟨c0, c1, c2, c3, c4, c5, c6⟩ := BF2.out.cells
          have m0 : w2.cell? ⟨w.heap.size + 1, 0, none⟩ = some (.int .i64 fl) := cells_of BM2.out 0
          have m1 : w2.cell? ⟨w.heap.size + 1, 1, none⟩ = some (.int .i64 nm) := cells_of BM2.out 1
          have m2 : w2.cell? ⟨w.heap.size + 1, 2, none⟩ = some (.int .i64 ds) := cells_of BM2.out 2
          have m3 : w2.cell? ⟨w.heap.size + 1, 3, none⟩ = some (.int .i64 ms) := cells_of BM2.out 3
          have m4 : w2.cell? ⟨w.heap.size + 1, 4, none⟩ = some (.int .i64 ml) := cells_of BM2.out 4
          have m5 : w2.cell? ⟨w.heap.size + 1, 5, none⟩ = some (.string code) := cells_of BM2.out 5
          have m6 : w2.cell? ⟨w.heap.size + 1, 6, none⟩ = some (.slice A hs.length c) := cells_of BM2.out 6
          go_wp2_with fail
          refine (HP.out _ _ FL2.out (by omega)).mono ?_
          rintro e w3 ⟨rfl, hb⟩
          clear c0 c1 c2 c3 c4 c5 c6 m0 m1 m2 m3 m4 m5 m6
          have BE3 := Lib.hid (Below.link BE2.out hb)
          have FL3 := Lib.hid (FL2.out.below hb (Nat.le_trans hB BE2.out.size))
          have BF3 := Lib.hid (BF2.out.below hb (by have := BF2.out.lt; omega))
          have BM3 := Lib.hid (Below.keep hb (by have := lt_of_block BM2.out; omega) BM2.out)
          have ltf3 := BF3.out.lt
          have ltm3 := lt_of_block BM3.out
          clear hb
          obtain ⟨c0, c1, c2, c3, c4, c5, c6⟩ := BF3.out.cells
          have m0 : w3.cell? ⟨w.heap.size + 1, 0, none⟩ = some (.int .i64 fl) := cells_of BM3.out 0
          have m1 : w3.cell? ⟨w.heap.size + 1, 1, none⟩ = some (.int .i64 nm) := cells_of BM3.out 1
          have m2 : w3.cell? ⟨w.heap.size + 1, 2, none⟩ = some (.int .i64 ds) := cells_of BM3.out 2
          have m3 : w3.cell? ⟨w.heap.size + 1, 3, none⟩ = some (.int .i64 ms) := cells_of BM3.out 3
          have m4 : w3.cell? ⟨w.heap.size + 1, 4, none⟩ = some (.int .i64 ml) := cells_of BM3.out 4
          have m5 : w3.cell? ⟨w.heap.size + 1, 5, none⟩ = some (.string code) := cells_of BM3.out 5
          have m6 : w3.cell? ⟨w.heap.size + 1, 6, none⟩ = some (.slice A hs.length c) := cells_of BM3.out 6
          clear c0 c1 c2 c3 c4 c5 c6 m0 m1 m2 m3 m4 m5 m6
          go_wp2
          go_ret
          exact ⟨ret_i HR.out.symm, BE3.out⟩
set_option maxRecDepth 1000000 in
set_option maxHeartbeats 6400000 in
theorem fieldHeadErr_any {B : Nat} (f : Fl) (v : Value) (w : World) (hf : FileAt B w v f) (hB : B ≤ w.heap.size) (ht : Texts f.pool) (hfl : f.fl = 0 ∨ f.fl = 2 ∨ f.fl = 3) (m : Mb) (A : Option Addr) (c : Nat) :
    Calls Try.prog 41 #[v, .agg #[.int .i64 m.fl, .int .i64 m.nm, .int .i64 m.ds, .int .i64 m.ms, .int .i64 m.ml, .string m.code, .slice A m.hs.length c]] w fun e w' => e = .returned (.int .i64 (hdE f.pool f.fl 1 typeE m)) ∧ Below w.heap.size w w' := by
  have HH := Lib.hid (fun V W hW hWB => headErr_any (B := B) f V W hW hWB ht hfl m A c 1 80 typeE (.inl ⟨rfl, rfl⟩))
  generalize hdE f.pool f.fl 1 typeE m = R at *
  obtain ⟨fl, nm, ds, ms, ml, code, hs⟩ := m
  simp only at HH ⊢
  obtain ⟨Ap, cp, Ai, ci, Af, cf, Am, cm, rfl, hi⟩ := id hf
  have FL := Lib.hid ((hf.alloc hB (.cells #[.slice Ap f.pool.length cp, .int .i64 f.fl, .int .i64 f.this, .int .i64 f.super, .slice Ai f.ifs.length ci, .slice Af f.fds.length cf, .slice Am f.mts.length cm] 26)).alloc (le_alloc hB _) (.cells #[.int .i64 fl, .int .i64 nm, .int .i64 ds, .int .i64 ms, .int .i64 ml, .string code, .slice A hs.length c] 38))
  have BE := Lib.hid (((Below.refl w.heap.size w).alloc (Nat.le_refl _) (.cells #[.slice Ap f.pool.length cp, .int .i64 f.fl, .int .i64 f.this, .int .i64 f.super, .slice Ai f.ifs.length ci, .slice Af f.fds.length cf, .slice Am f.mts.length cm] 26)).alloc (le_alloc (Nat.le_refl _) _) (.cells #[.int .i64 fl, .int .i64 nm, .int .i64 ds, .int .i64 ms, .int .i64 ml, .string code, .slice A hs.length c] 38))
  have BF := Lib.hid ((FBox.new Ap cp Ai ci Af cf Am cm f w).alloc (.cells #[.int .i64 fl, .int .i64 nm, .int .i64 ds, .int .i64 ms, .int .i64 ml, .string code, .slice A hs.length c] 38))
  have BM := Lib.hid (heap_new2 w (.cells #[.slice Ap f.pool.length cp, .int .i64 f.fl, .int .i64 f.this, .int .i64 f.super, .slice Ai f.ifs.length ci, .slice Af f.fds.length cf, .slice Am f.mts.length cm] 26) (.cells #[.int .i64 fl, .int .i64 nm, .int .i64 ds, .int .i64 ms, .int .i64 ml, .string code, .slice A hs.length c] 38))
  clear hi hf
  clear hfl
  go_enter Try.func41, Try.ntmps41
  go_wp2_with fail
  refine (HH.out _ _ FL.out (by simp; omega)).mono ?_
  rintro e w1 ⟨rfl, hb⟩
  have BE1 := Lib.hid (Below.link BE.out hb)
  clear hb
  go_wp2
  go_ret
  exact ⟨rfl, BE1.out⟩
set_option maxRecDepth 1000000 in
set_option maxHeartbeats 6400000 in
theorem methodHeadErr_any {B : Nat} (f : Fl) (v : Value) (w : World) (hf : FileAt B w v f) (hB : B ≤ w.heap.size) (ht : Texts f.pool) (hfl : f.fl = 0 ∨ f.fl = 2 ∨ f.fl = 3) (m : Mb) (A : Option Addr) (c : Nat) :
    Calls Try.prog 44 #[v, .agg #[.int .i64 m.fl, .int .i64 m.nm, .int .i64 m.ds, .int .i64 m.ms, .int .i64 m.ml, .string m.code, .slice A m.hs.length c]] w fun e w' => e = .returned (.int .i64 (hdE f.pool f.fl 2 sigE m)) ∧ Below w.heap.size w w' := by
  have HH := Lib.hid (fun V W hW hWB => headErr_any (B := B) f V W hW hWB ht hfl m A c 2 81 sigE (.inr ⟨rfl, rfl⟩))
  generalize hdE f.pool f.fl 2 sigE m = R at *
  obtain ⟨fl, nm, ds, ms, ml, code, hs⟩ := m
  simp only at HH ⊢
  obtain ⟨Ap, cp, Ai, ci, Af, cf, Am, cm, rfl, hi⟩ := id hf
  have FL := Lib.hid ((hf.alloc hB (.cells #[.slice Ap f.pool.length cp, .int .i64 f.fl, .int .i64 f.this, .int .i64 f.super, .slice Ai f.ifs.length ci, .slice Af f.fds.length cf, .slice Am f.mts.length cm] 26)).alloc (le_alloc hB _) (.cells #[.int .i64 fl, .int .i64 nm, .int .i64 ds, .int .i64 ms, .int .i64 ml, .string code, .slice A hs.length c] 38))
  have BE := Lib.hid (((Below.refl w.heap.size w).alloc (Nat.le_refl _) (.cells #[.slice Ap f.pool.length cp, .int .i64 f.fl, .int .i64 f.this, .int .i64 f.super, .slice Ai f.ifs.length ci, .slice Af f.fds.length cf, .slice Am f.mts.length cm] 26)).alloc (le_alloc (Nat.le_refl _) _) (.cells #[.int .i64 fl, .int .i64 nm, .int .i64 ds, .int .i64 ms, .int .i64 ml, .string code, .slice A hs.length c] 38))
  have BF := Lib.hid ((FBox.new Ap cp Ai ci Af cf Am cm f w).alloc (.cells #[.int .i64 fl, .int .i64 nm, .int .i64 ds, .int .i64 ms, .int .i64 ml, .string code, .slice A hs.length c] 38))
  have BM := Lib.hid (heap_new2 w (.cells #[.slice Ap f.pool.length cp, .int .i64 f.fl, .int .i64 f.this, .int .i64 f.super, .slice Ai f.ifs.length ci, .slice Af f.fds.length cf, .slice Am f.mts.length cm] 26) (.cells #[.int .i64 fl, .int .i64 nm, .int .i64 ds, .int .i64 ms, .int .i64 ml, .string code, .slice A hs.length c] 38))
  clear hi hf
  clear hfl
  go_enter Try.func44, Try.ntmps44
  go_wp2_with fail
  refine (HH.out _ _ FL.out (by simp; omega)).mono ?_
  rintro e w1 ⟨rfl, hb⟩
  have BE1 := Lib.hid (Below.link BE.out hb)
  clear hb
  go_wp2
  go_ret
  exact ⟨rfl, BE1.out⟩
end Go.Proofs.Ytcgloepfnnfioaa
