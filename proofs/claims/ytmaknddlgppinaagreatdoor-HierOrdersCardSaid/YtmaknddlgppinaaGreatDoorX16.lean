/-
  CUT and joined from the texts of this seat: E7 E8
-/
import Derived.Test.YtmaknddlgppinaaGreatDoorX15
set_option linter.unusedVariables false
set_option linter.unusedSimpArgs false
/-! E7 -/
namespace Go.Proofs.YtmaknddlgppinaaGreatDoor
open Go.RowKit

def bareB (m : Mb) : Bool := decide (m.ms = 0) && decide (m.ml = 0) && decide (m.code.size = 0) && decide (m.hs.length = 0)
def extraE (m : Mb) : Int := if bareB m = true then 0 else 1
theorem str_nil {s : ByteArray} : (s.size = 0 ∧ s.toList = [] ∧ s.toList.isEmpty = true) ∨ (0 < s.size ∧ ¬ s.toList = [] ∧ s.toList.isEmpty = false) := by
  by_cases h : s.size = 0
  · exact .inl ⟨h, nil_of0 h, emp_of0 h⟩
  · exact .inr ⟨by omega, ne_ofpos (by omega), emp_ofpos (by omega)⟩
set_option maxRecDepth 1000000 in
set_option maxHeartbeats 6400000 in
theorem extraErr_any {B : Nat} (f : Fl) (v : Value) (w : World) (hf : FileAt B w v f) (hB : B ≤ w.heap.size) (m : Mb) (A : Option Addr) (c : Nat) :
    Calls Tryz.prog 153 #[v, .agg #[.int .i64 m.fl, .int .i64 m.nm, .int .i64 m.ds, .int .i64 m.ms, .int .i64 m.ml, .string m.code, .slice A m.hs.length c]] w fun e w' => e = .returned (.int .i64 (extraE m)) ∧ Below w.heap.size w w' := by
  obtain ⟨fl, nm, ds, ms, ml, code, hs⟩ := m
  have HE := Lib.hid (show extraE ⟨fl, nm, ds, ms, ml, code, hs⟩ = if (decide (ms = 0) && decide (ml = 0) && decide (code.size = 0) && decide (hs.length = 0)) = true then 0 else 1 from rfl)
  simp only
  generalize extraE ⟨fl, nm, ds, ms, ml, code, hs⟩ = R at *
  obtain ⟨Ap, cp, Ai, ci, Af, cf, Am, cm, rfl, hi⟩ := id hf
  have FL := Lib.hid ((hf.alloc hB (.cells #[.slice Ap f.pool.length cp, .int .i64 f.fl, .int .i64 f.this, .int .i64 f.super, .slice Ai f.ifs.length ci, .slice Af f.fds.length cf, .slice Am f.mts.length cm] 94)).alloc (le_alloc hB _) (.cells #[.int .i64 fl, .int .i64 nm, .int .i64 ds, .int .i64 ms, .int .i64 ml, .string code, .slice A hs.length c] 141))
  have BE := Lib.hid (((Below.refl w.heap.size w).alloc (Nat.le_refl _) (.cells #[.slice Ap f.pool.length cp, .int .i64 f.fl, .int .i64 f.this, .int .i64 f.super, .slice Ai f.ifs.length ci, .slice Af f.fds.length cf, .slice Am f.mts.length cm] 94)).alloc (le_alloc (Nat.le_refl _) _) (.cells #[.int .i64 fl, .int .i64 nm, .int .i64 ds, .int .i64 ms, .int .i64 ml, .string code, .slice A hs.length c] 141))
  have BF := Lib.hid ((FBox.new Ap cp Ai ci Af cf Am cm f w).alloc (.cells #[.int .i64 fl, .int .i64 nm, .int .i64 ds, .int .i64 ms, .int .i64 ml, .string code, .slice A hs.length c] 141))
  have BM := Lib.hid (heap_new2 w (.cells #[.slice Ap f.pool.length cp, .int .i64 f.fl, .int .i64 f.this, .int .i64 f.super, .slice Ai f.ifs.length ci, .slice Af f.fds.length cf, .slice Am f.mts.length cm] 94) (.cells #[.int .i64 fl, .int .i64 nm, .int .i64 ds, .int .i64 ms, .int .i64 ml, .string code, .slice A hs.length c] 141))
  clear hi hf
  generalize hs.length = n at *
  have hn : (n : Int) ≤ 0 ∨ 0 < (n : Int) := by omega
  rcases str_nil (s := code) with ⟨hx, e1, e2⟩ | ⟨hx, e1, e2⟩
  all_goals
    obtain ⟨S, hS⟩ : ∃ S, code.size = S := ⟨_, rfl⟩
    rw [hS] at hx HE
    clear hS
    by_cases h1 : ms = 0
    all_goals
      by_cases h2 : ml = 0
      all_goals
        by_cases h3 : n = 0
        all_goals
          have f1 : (ms == 0) = decide (ms = 0) := rfl
          have f2 : (ml == 0) = decide (ml = 0) := rfl
          have g1 : (ms != 0) = !decide (ms = 0) := rfl
          have g2 : (ml != 0) = !decide (ml = 0) := rfl
          have hn0 : n = 0 ∨ 0 < n := by omega
          first
            | subst h1
            | rw [decide_eq_false h1] at f1 g1
          first
            | subst h2
            | rw [decide_eq_false h2] at f2 g2
          first
            | (subst h3; clear hn hn0)
            | (have h3' : 0 < n := by omega
               have h3'' : (0 : Int) < n := by omega
               clear hn hn0)
          go_enter Tryz.func153, Tryz.ntmps153
          go_wp2
          go_ret
          refine ⟨ret_i ?_, BE.out⟩
          rw [HE.out]
          first
            | (simp; done)
            | (simp [*]; done)
            | (simp; omega)
/-- The error of a constructor, or a class's initialiser, that is not of its form. -/
def initN : ByteArray := ⟨#[60, 105, 110, 105, 116, 62]⟩
def clinitN : ByteArray := ⟨#[60, 99, 108, 105, 110, 105, 116, 62]⟩
def voidD : ByteArray := ⟨#[40, 41, 86]⟩
def voidB (s : ByteArray) : Bool := (res (methL (L s))).2.2.1
def specE (p : List Cn) (m : Mb) : Int :=
  if textP p m.nm = initN then (if m.fl = 0 ∧ voidB (textP p m.ds) = true then 0 else 10)
  else if textP p m.nm = clinitN then (if m.fl = 1 ∧ textP p m.ds = voidD then 0 else 10) else 0
set_option maxRecDepth 1000000 in
set_option maxHeartbeats 6400000 in
theorem specialErr_any {B : Nat} (f : Fl) (v : Value) (w : World) (hf : FileAt B w v f) (hB : B ≤ w.heap.size) (ht : Texts f.pool) (m : Mb) (A : Option Addr) (c : Nat) :
    Calls Tryz.prog 156 #[v, .agg #[.int .i64 m.fl, .int .i64 m.nm, .int .i64 m.ds, .int .i64 m.ms, .int .i64 m.ml, .string m.code, .slice A m.hs.length c]] w fun e w' => e = .returned (.int .i64 (specE f.pool m)) ∧ Below w.heap.size w w' := by
  obtain ⟨fl, nm, ds, ms, ml, code, hs⟩ := m
  have HE := Lib.hid (show specE f.pool ⟨fl, nm, ds, ms, ml, code, hs⟩ = if textP f.pool nm = initN then (if fl = 0 ∧ voidB (textP f.pool ds) = true then 0 else 10)
    else if textP f.pool nm = clinitN then (if fl = 1 ∧ textP f.pool ds = voidD then 0 else 10) else 0 from rfl)
  simp only
  generalize specE f.pool ⟨fl, nm, ds, ms, ml, code, hs⟩ = R at *
  have HT := Lib.hid (fun V W hW hWB i => textOf_any (B := B) f V W hW hWB i)
  have HM := fun W => Lib.hid (Method_any (textP f.pool ds) W (by have := textP_le ht ds; omega))
  have HTN := Lib.hid (fun V W (hW : FileAt B W V f) hWB => HT.out V W hW hWB nm)
  have HTD := Lib.hid (fun V W (hW : FileAt B W V f) hWB => HT.out V W hW hWB ds)
  obtain ⟨Ap, cp, Ai, ci, Af, cf, Am, cm, rfl, hi⟩ := id hf
  have FL := Lib.hid ((hf.alloc hB (.cells #[.slice Ap f.pool.length cp, .int .i64 f.fl, .int .i64 f.this, .int .i64 f.super, .slice Ai f.ifs.length ci, .slice Af f.fds.length cf, .slice Am f.mts.length cm] 94)).alloc (le_alloc hB _) (.cells #[.int .i64 fl, .int .i64 nm, .int .i64 ds, .int .i64 ms, .int .i64 ml, .string code, .slice A hs.length c] 141))
  have BE := Lib.hid (((Below.refl w.heap.size w).alloc (Nat.le_refl _) (.cells #[.slice Ap f.pool.length cp, .int .i64 f.fl, .int .i64 f.this, .int .i64 f.super, .slice Ai f.ifs.length ci, .slice Af f.fds.length cf, .slice Am f.mts.length cm] 94)).alloc (le_alloc (Nat.le_refl _) _) (.cells #[.int .i64 fl, .int .i64 nm, .int .i64 ds, .int .i64 ms, .int .i64 ml, .string code, .slice A hs.length c] 141))
  have BF := Lib.hid ((FBox.new Ap cp Ai ci Af cf Am cm f w).alloc (.cells #[.int .i64 fl, .int .i64 nm, .int .i64 ds, .int .i64 ms, .int .i64 ml, .string code, .slice A hs.length c] 141))
  have BM := Lib.hid (heap_new2 w (.cells #[.slice Ap f.pool.length cp, .int .i64 f.fl, .int .i64 f.this, .int .i64 f.super, .slice Ai f.ifs.length ci, .slice Af f.fds.length cf, .slice Am f.mts.length cm] 94) (.cells #[.int .i64 fl, .int .i64 nm, .int .i64 ds, .int .i64 ms, .int .i64 ml, .string code, .slice A hs.length c] 141))
  clear hi hf
  clear HT
  generalize textP f.pool nm = sn at *
  generalize textP f.pool ds = sd at *
  by_cases h1 : sn = initN
  · subst h1
    have HE1 := Lib.hid (show R = if fl = 0 ∧ voidB sd = true then 0 else 10 by rw [HE.out, if_pos rfl])
    unfold initN at HTN
    have HV := Lib.hid (show voidB sd = (res (methL (L sd))).2.2.1 from rfl)
    obtain ⟨⟨xs, ⟨d, rn⟩, vo, er⟩, hx⟩ : ∃ x, res (methL (L sd)) = x := ⟨_, rfl⟩
    rw [hx] at HM HV
    unfold sgV at HM
    simp only at HM HV
    clear hx HE
    have f1 : (fl == 0) = decide (fl = 0) := rfl
    cases vo
    all_goals (by_cases hz : fl = 0)
    · subst hz
      go_enter Tryz.func156, Tryz.ntmps156
      go_wp2_with fail
      refine (HTN.out _ _ FL.out (by simp; omega)).mono ?_
      rintro e w1 ⟨rfl, hb⟩
      have BE1 := Lib.hid (Below.link BE.out hb)
      have FL1 := Lib.hid (FL.out.below hb (Nat.le_trans hB BE.out.size))
      have BF1 := Lib.hid (BF.out.below hb (by have := BF.out.lt; omega))
      have BM1 := Lib.hid (Below.keep hb (by have := lt_of_block BM.out; omega) BM.out)
      have ltf1 := BF1.out.lt
      have ltm1 := lt_of_block BM1.out
      clear hb
      obtain ⟨c0, c1, c2, c3, c4, c5, c6⟩ := BF1.out.cells
      have m0 : w1.cell? ⟨w.heap.size + 1, 0, none⟩ = some (.int .i64 0) := cells_of BM1.out 0
      have m1 : w1.cell? ⟨w.heap.size + 1, 1, none⟩ = some (.int .i64 nm) := cells_of BM1.out 1
      have m2 : w1.cell? ⟨w.heap.size + 1, 2, none⟩ = some (.int .i64 ds) := cells_of BM1.out 2
      have m3 : w1.cell? ⟨w.heap.size + 1, 3, none⟩ = some (.int .i64 ms) := cells_of BM1.out 3
      have m4 : w1.cell? ⟨w.heap.size + 1, 4, none⟩ = some (.int .i64 ml) := cells_of BM1.out 4
      have m5 : w1.cell? ⟨w.heap.size + 1, 5, none⟩ = some (.string code) := cells_of BM1.out 5
      have m6 : w1.cell? ⟨w.heap.size + 1, 6, none⟩ = some (.slice A hs.length c) := cells_of BM1.out 6
      go_wp2_with fail
      refine (HTD.out _ _ FL1.out (by omega)).mono ?_
      rintro e w2 ⟨rfl, hb⟩
      clear c0 c1 c2 c3 c4 c5 c6 m0 m1 m2 m3 m4 m5 m6
      have BE2 := Lib.hid (Below.link BE1.out hb)
      have FL2 := Lib.hid (FL1.out.below hb (Nat.le_trans hB BE1.out.size))
      have BF2 := Lib.hid (BF1.out.below hb (by have := BF1.out.lt; omega))
      have BM2 := Lib.hid (Below.keep hb (by have := lt_of_block BM1.out; omega) BM1.out)
      have ltf2 := BF2.out.lt
      have ltm2 := lt_of_block BM2.out
      clear hb
      obtain ⟨c0, c1, c2, c3, c4, c5, c6⟩ := BF2.out.cells
      have m0 : w2.cell? ⟨w.heap.size + 1, 0, none⟩ = some (.int .i64 0) := cells_of BM2.out 0
      have m1 : w2.cell? ⟨w.heap.size + 1, 1, none⟩ = some (.int .i64 nm) := cells_of BM2.out 1
      have m2 : w2.cell? ⟨w.heap.size + 1, 2, none⟩ = some (.int .i64 ds) := cells_of BM2.out 2
      have m3 : w2.cell? ⟨w.heap.size + 1, 3, none⟩ = some (.int .i64 ms) := cells_of BM2.out 3
      have m4 : w2.cell? ⟨w.heap.size + 1, 4, none⟩ = some (.int .i64 ml) := cells_of BM2.out 4
      have m5 : w2.cell? ⟨w.heap.size + 1, 5, none⟩ = some (.string code) := cells_of BM2.out 5
      have m6 : w2.cell? ⟨w.heap.size + 1, 6, none⟩ = some (.slice A hs.length c) := cells_of BM2.out 6
      go_wp2_with fail
      refine (HM _).out.mono ?_
      rintro e w3 ⟨v3, rfl, own, hb⟩
      obtain ⟨a, c', rfl⟩ := own_form own
      generalize xs.length = nx at *
      clear c0 c1 c2 c3 c4 c5 c6 m0 m1 m2 m3 m4 m5 m6
      have BE3 := Lib.hid (Below.link BE2.out hb)
      have FL3 := Lib.hid (FL2.out.below hb (Nat.le_trans hB BE2.out.size))
      have BF3 := Lib.hid (BF2.out.below hb (by have := BF2.out.lt; omega))
      have BM3 := Lib.hid (Below.keep hb (by have := lt_of_block BM2.out; omega) BM2.out)
      have ltf3 := BF3.out.lt
      have ltm3 := lt_of_block BM3.out
      clear hb own
      obtain ⟨c0, c1, c2, c3, c4, c5, c6⟩ := BF3.out.cells
      have m0 : w3.cell? ⟨w.heap.size + 1, 0, none⟩ = some (.int .i64 0) := cells_of BM3.out 0
      have m1 : w3.cell? ⟨w.heap.size + 1, 1, none⟩ = some (.int .i64 nm) := cells_of BM3.out 1
      have m2 : w3.cell? ⟨w.heap.size + 1, 2, none⟩ = some (.int .i64 ds) := cells_of BM3.out 2
      have m3 : w3.cell? ⟨w.heap.size + 1, 3, none⟩ = some (.int .i64 ms) := cells_of BM3.out 3
      have m4 : w3.cell? ⟨w.heap.size + 1, 4, none⟩ = some (.int .i64 ml) := cells_of BM3.out 4
      have m5 : w3.cell? ⟨w.heap.size + 1, 5, none⟩ = some (.string code) := cells_of BM3.out 5
      have m6 : w3.cell? ⟨w.heap.size + 1, 6, none⟩ = some (.slice A hs.length c) := cells_of BM3.out 6
      have BE4 := Lib.hid (BE3.out.alloc (by omega) (.cells #[.slice a nx c', .int .i64 d, .string (mkB rn), .bool false] 209))
      go_wp2
      all_goals
        go_ret
        refine ⟨ret_i ?_, BE4.out⟩
        rw [HE1.out, HV.out]
        simp_all
    · rw [decide_eq_false hz] at f1
      go_enter Tryz.func156, Tryz.ntmps156
      go_wp2_with fail
      refine (HTN.out _ _ FL.out (by simp; omega)).mono ?_
      rintro e w1 ⟨rfl, hb⟩
      have BE1 := Lib.hid (Below.link BE.out hb)
      have FL1 := Lib.hid (FL.out.below hb (Nat.le_trans hB BE.out.size))
      have BF1 := Lib.hid (BF.out.below hb (by have := BF.out.lt; omega))
      have BM1 := Lib.hid (Below.keep hb (by have := lt_of_block BM.out; omega) BM.out)
      have ltf1 := BF1.out.lt
      have ltm1 := lt_of_block BM1.out
      clear hb
      obtain ⟨c0, c1, c2, c3, c4, c5, c6⟩ := BF1.out.cells
      have m0 : w1.cell? ⟨w.heap.size + 1, 0, none⟩ = some (.int .i64 fl) := cells_of BM1.out 0
      have m1 : w1.cell? ⟨w.heap.size + 1, 1, none⟩ = some (.int .i64 nm) := cells_of BM1.out 1
      have m2 : w1.cell? ⟨w.heap.size + 1, 2, none⟩ = some (.int .i64 ds) := cells_of BM1.out 2
      have m3 : w1.cell? ⟨w.heap.size + 1, 3, none⟩ = some (.int .i64 ms) := cells_of BM1.out 3
      have m4 : w1.cell? ⟨w.heap.size + 1, 4, none⟩ = some (.int .i64 ml) := cells_of BM1.out 4
      have m5 : w1.cell? ⟨w.heap.size + 1, 5, none⟩ = some (.string code) := cells_of BM1.out 5
      have m6 : w1.cell? ⟨w.heap.size + 1, 6, none⟩ = some (.slice A hs.length c) := cells_of BM1.out 6
      go_wp2_with fail
      refine (HTD.out _ _ FL1.out (by omega)).mono ?_
      rintro e w2 ⟨rfl, hb⟩
      clear c0 c1 c2 c3 c4 c5 c6 m0 m1 m2 m3 m4 m5 m6
      have BE2 := Lib.hid (Below.link BE1.out hb)
      have FL2 := Lib.hid (FL1.out.below hb (Nat.le_trans hB BE1.out.size))
      have BF2 := Lib.hid (BF1.out.below hb (by have := BF1.out.lt; omega))
      have BM2 := Lib.hid (Below.keep hb (by have := lt_of_block BM1.out; omega) BM1.out)
      have ltf2 := BF2.out.lt
      have ltm2 := lt_of_block BM2.out
      clear hb
      obtain ⟨c0, c1, c2, c3, c4, c5, c6⟩ := BF2.out.cells
      have m0 : w2.cell? ⟨w.heap.size + 1, 0, none⟩ = some (.int .i64 fl) := cells_of BM2.out 0
      have m1 : w2.cell? ⟨w.heap.size + 1, 1, none⟩ = some (.int .i64 nm) := cells_of BM2.out 1
      have m2 : w2.cell? ⟨w.heap.size + 1, 2, none⟩ = some (.int .i64 ds) := cells_of BM2.out 2
      have m3 : w2.cell? ⟨w.heap.size + 1, 3, none⟩ = some (.int .i64 ms) := cells_of BM2.out 3
      have m4 : w2.cell? ⟨w.heap.size + 1, 4, none⟩ = some (.int .i64 ml) := cells_of BM2.out 4
      have m5 : w2.cell? ⟨w.heap.size + 1, 5, none⟩ = some (.string code) := cells_of BM2.out 5
      have m6 : w2.cell? ⟨w.heap.size + 1, 6, none⟩ = some (.slice A hs.length c) := cells_of BM2.out 6
      go_wp2_with fail
      refine (HM _).out.mono ?_
      rintro e w3 ⟨v3, rfl, own, hb⟩
      obtain ⟨a, c', rfl⟩ := own_form own
      generalize xs.length = nx at *
      clear c0 c1 c2 c3 c4 c5 c6 m0 m1 m2 m3 m4 m5 m6
      have BE3 := Lib.hid (Below.link BE2.out hb)
      have FL3 := Lib.hid (FL2.out.below hb (Nat.le_trans hB BE2.out.size))
      have BF3 := Lib.hid (BF2.out.below hb (by have := BF2.out.lt; omega))
      have BM3 := Lib.hid (Below.keep hb (by have := lt_of_block BM2.out; omega) BM2.out)
      have ltf3 := BF3.out.lt
      have ltm3 := lt_of_block BM3.out
      clear hb own
      obtain ⟨c0, c1, c2, c3, c4, c5, c6⟩ := BF3.out.cells
      have m0 : w3.cell? ⟨w.heap.size + 1, 0, none⟩ = some (.int .i64 fl) := cells_of BM3.out 0
      have m1 : w3.cell? ⟨w.heap.size + 1, 1, none⟩ = some (.int .i64 nm) := cells_of BM3.out 1
      have m2 : w3.cell? ⟨w.heap.size + 1, 2, none⟩ = some (.int .i64 ds) := cells_of BM3.out 2
      have m3 : w3.cell? ⟨w.heap.size + 1, 3, none⟩ = some (.int .i64 ms) := cells_of BM3.out 3
      have m4 : w3.cell? ⟨w.heap.size + 1, 4, none⟩ = some (.int .i64 ml) := cells_of BM3.out 4
      have m5 : w3.cell? ⟨w.heap.size + 1, 5, none⟩ = some (.string code) := cells_of BM3.out 5
      have m6 : w3.cell? ⟨w.heap.size + 1, 6, none⟩ = some (.slice A hs.length c) := cells_of BM3.out 6
      have BE4 := Lib.hid (BE3.out.alloc (by omega) (.cells #[.slice a nx c', .int .i64 d, .string (mkB rn), .bool false] 209))
      go_wp2
      all_goals
        go_ret
        refine ⟨ret_i ?_, BE4.out⟩
        rw [HE1.out, HV.out]
        simp_all
    · subst hz
      go_enter Tryz.func156, Tryz.ntmps156
      go_wp2_with fail
      refine (HTN.out _ _ FL.out (by simp; omega)).mono ?_
      rintro e w1 ⟨rfl, hb⟩
      have BE1 := Lib.hid (Below.link BE.out hb)
      have FL1 := Lib.hid (FL.out.below hb (Nat.le_trans hB BE.out.size))
      have BF1 := Lib.hid (BF.out.below hb (by have := BF.out.lt; omega))
      have BM1 := Lib.hid (Below.keep hb (by have := lt_of_block BM.out; omega) BM.out)
      have ltf1 := BF1.out.lt
      have ltm1 := lt_of_block BM1.out
      clear hb
      obtain ⟨c0, c1, c2, c3, c4, c5, c6⟩ := BF1.out.cells
      have m0 : w1.cell? ⟨w.heap.size + 1, 0, none⟩ = some (.int .i64 0) := cells_of BM1.out 0
      have m1 : w1.cell? ⟨w.heap.size + 1, 1, none⟩ = some (.int .i64 nm) := cells_of BM1.out 1
      have m2 : w1.cell? ⟨w.heap.size + 1, 2, none⟩ = some (.int .i64 ds) := cells_of BM1.out 2
      have m3 : w1.cell? ⟨w.heap.size + 1, 3, none⟩ = some (.int .i64 ms) := cells_of BM1.out 3
      have m4 : w1.cell? ⟨w.heap.size + 1, 4, none⟩ = some (.int .i64 ml) := cells_of BM1.out 4
      have m5 : w1.cell? ⟨w.heap.size + 1, 5, none⟩ = some (.string code) := cells_of BM1.out 5
      have m6 : w1.cell? ⟨w.heap.size + 1, 6, none⟩ = some (.slice A hs.length c) := cells_of BM1.out 6
      go_wp2_with fail
      refine (HTD.out _ _ FL1.out (by omega)).mono ?_
      rintro e w2 ⟨rfl, hb⟩
      clear c0 c1 c2 c3 c4 c5 c6 m0 m1 m2 m3 m4 m5 m6
      have BE2 := Lib.hid (Below.link BE1.out hb)
      have FL2 := Lib.hid (FL1.out.below hb (Nat.le_trans hB BE1.out.size))
      have BF2 := Lib.hid (BF1.out.below hb (by have := BF1.out.lt; omega))
      have BM2 := Lib.hid (Below.keep hb (by have := lt_of_block BM1.out; omega) BM1.out)
      have ltf2 := BF2.out.lt
      have ltm2 := lt_of_block BM2.out
      clear hb
      obtain ⟨c0, c1, c2, c3, c4, c5, c6⟩ := BF2.out.cells
      have m0 : w2.cell? ⟨w.heap.size + 1, 0, none⟩ = some (.int .i64 0) := cells_of BM2.out 0
      have m1 : w2.cell? ⟨w.heap.size + 1, 1, none⟩ = some (.int .i64 nm) := cells_of BM2.out 1
      have m2 : w2.cell? ⟨w.heap.size + 1, 2, none⟩ = some (.int .i64 ds) := cells_of BM2.out 2
      have m3 : w2.cell? ⟨w.heap.size + 1, 3, none⟩ = some (.int .i64 ms) := cells_of BM2.out 3
      have m4 : w2.cell? ⟨w.heap.size + 1, 4, none⟩ = some (.int .i64 ml) := cells_of BM2.out 4
      have m5 : w2.cell? ⟨w.heap.size + 1, 5, none⟩ = some (.string code) := cells_of BM2.out 5
      have m6 : w2.cell? ⟨w.heap.size + 1, 6, none⟩ = some (.slice A hs.length c) := cells_of BM2.out 6
      go_wp2_with fail
      refine (HM _).out.mono ?_
      rintro e w3 ⟨v3, rfl, own, hb⟩
      obtain ⟨a, c', rfl⟩ := own_form own
      generalize xs.length = nx at *
      clear c0 c1 c2 c3 c4 c5 c6 m0 m1 m2 m3 m4 m5 m6
      have BE3 := Lib.hid (Below.link BE2.out hb)
      have FL3 := Lib.hid (FL2.out.below hb (Nat.le_trans hB BE2.out.size))
      have BF3 := Lib.hid (BF2.out.below hb (by have := BF2.out.lt; omega))
      have BM3 := Lib.hid (Below.keep hb (by have := lt_of_block BM2.out; omega) BM2.out)
      have ltf3 := BF3.out.lt
      have ltm3 := lt_of_block BM3.out
      clear hb own
      obtain ⟨c0, c1, c2, c3, c4, c5, c6⟩ := BF3.out.cells
      have m0 : w3.cell? ⟨w.heap.size + 1, 0, none⟩ = some (.int .i64 0) := cells_of BM3.out 0
      have m1 : w3.cell? ⟨w.heap.size + 1, 1, none⟩ = some (.int .i64 nm) := cells_of BM3.out 1
      have m2 : w3.cell? ⟨w.heap.size + 1, 2, none⟩ = some (.int .i64 ds) := cells_of BM3.out 2
      have m3 : w3.cell? ⟨w.heap.size + 1, 3, none⟩ = some (.int .i64 ms) := cells_of BM3.out 3
      have m4 : w3.cell? ⟨w.heap.size + 1, 4, none⟩ = some (.int .i64 ml) := cells_of BM3.out 4
      have m5 : w3.cell? ⟨w.heap.size + 1, 5, none⟩ = some (.string code) := cells_of BM3.out 5
      have m6 : w3.cell? ⟨w.heap.size + 1, 6, none⟩ = some (.slice A hs.length c) := cells_of BM3.out 6
      have BE4 := Lib.hid (BE3.out.alloc (by omega) (.cells #[.slice a nx c', .int .i64 d, .string (mkB rn), .bool true] 209))
      go_wp2
      all_goals
        go_ret
        refine ⟨ret_i ?_, BE4.out⟩
        rw [HE1.out, HV.out]
        simp_all
    · rw [decide_eq_false hz] at f1
      go_enter Tryz.func156, Tryz.ntmps156
      go_wp2_with fail
      refine (HTN.out _ _ FL.out (by simp; omega)).mono ?_
      rintro e w1 ⟨rfl, hb⟩
      have BE1 := Lib.hid (Below.link BE.out hb)
      have FL1 := Lib.hid (FL.out.below hb (Nat.le_trans hB BE.out.size))
      have BF1 := Lib.hid (BF.out.below hb (by have := BF.out.lt; omega))
      have BM1 := Lib.hid (Below.keep hb (by have := lt_of_block BM.out; omega) BM.out)
      have ltf1 := BF1.out.lt
      have ltm1 := lt_of_block BM1.out
      clear hb
      obtain ⟨c0, c1, c2, c3, c4, c5, c6⟩ := BF1.out.cells
      have m0 : w1.cell? ⟨w.heap.size + 1, 0, none⟩ = some (.int .i64 fl) := cells_of BM1.out 0
      have m1 : w1.cell? ⟨w.heap.size + 1, 1, none⟩ = some (.int .i64 nm) := cells_of BM1.out 1
      have m2 : w1.cell? ⟨w.heap.size + 1, 2, none⟩ = some (.int .i64 ds) := cells_of BM1.out 2
      have m3 : w1.cell? ⟨w.heap.size + 1, 3, none⟩ = some (.int .i64 ms) := cells_of BM1.out 3
      have m4 : w1.cell? ⟨w.heap.size + 1, 4, none⟩ = some (.int .i64 ml) := cells_of BM1.out 4
      have m5 : w1.cell? ⟨w.heap.size + 1, 5, none⟩ = some (.string code) := cells_of BM1.out 5
      have m6 : w1.cell? ⟨w.heap.size + 1, 6, none⟩ = some (.slice A hs.length c) := cells_of BM1.out 6
      go_wp2_with fail
      refine (HTD.out _ _ FL1.out (by omega)).mono ?_
      rintro e w2 ⟨rfl, hb⟩
      clear c0 c1 c2 c3 c4 c5 c6 m0 m1 m2 m3 m4 m5 m6
      have BE2 := Lib.hid (Below.link BE1.out hb)
      have FL2 := Lib.hid (FL1.out.below hb (Nat.le_trans hB BE1.out.size))
      have BF2 := Lib.hid (BF1.out.below hb (by have := BF1.out.lt; omega))
      have BM2 := Lib.hid (Below.keep hb (by have := lt_of_block BM1.out; omega) BM1.out)
      have ltf2 := BF2.out.lt
      have ltm2 := lt_of_block BM2.out
      clear hb
      obtain ⟨c0, c1, c2, c3, c4, c5, c6⟩ := BF2.out.cells
      have m0 : w2.cell? ⟨w.heap.size + 1, 0, none⟩ = some (.int .i64 fl) := cells_of BM2.out 0
      have m1 : w2.cell? ⟨w.heap.size + 1, 1, none⟩ = some (.int .i64 nm) := cells_of BM2.out 1
      have m2 : w2.cell? ⟨w.heap.size + 1, 2, none⟩ = some (.int .i64 ds) := cells_of BM2.out 2
      have m3 : w2.cell? ⟨w.heap.size + 1, 3, none⟩ = some (.int .i64 ms) := cells_of BM2.out 3
      have m4 : w2.cell? ⟨w.heap.size + 1, 4, none⟩ = some (.int .i64 ml) := cells_of BM2.out 4
      have m5 : w2.cell? ⟨w.heap.size + 1, 5, none⟩ = some (.string code) := cells_of BM2.out 5
      have m6 : w2.cell? ⟨w.heap.size + 1, 6, none⟩ = some (.slice A hs.length c) := cells_of BM2.out 6
      go_wp2_with fail
      refine (HM _).out.mono ?_
      rintro e w3 ⟨v3, rfl, own, hb⟩
      obtain ⟨a, c', rfl⟩ := own_form own
      generalize xs.length = nx at *
      clear c0 c1 c2 c3 c4 c5 c6 m0 m1 m2 m3 m4 m5 m6
      have BE3 := Lib.hid (Below.link BE2.out hb)
      have FL3 := Lib.hid (FL2.out.below hb (Nat.le_trans hB BE2.out.size))
      have BF3 := Lib.hid (BF2.out.below hb (by have := BF2.out.lt; omega))
      have BM3 := Lib.hid (Below.keep hb (by have := lt_of_block BM2.out; omega) BM2.out)
      have ltf3 := BF3.out.lt
      have ltm3 := lt_of_block BM3.out
      clear hb own
      obtain ⟨c0, c1, c2, c3, c4, c5, c6⟩ := BF3.out.cells
      have m0 : w3.cell? ⟨w.heap.size + 1, 0, none⟩ = some (.int .i64 fl) := cells_of BM3.out 0
      have m1 : w3.cell? ⟨w.heap.size + 1, 1, none⟩ = some (.int .i64 nm) := cells_of BM3.out 1
      have m2 : w3.cell? ⟨w.heap.size + 1, 2, none⟩ = some (.int .i64 ds) := cells_of BM3.out 2
      have m3 : w3.cell? ⟨w.heap.size + 1, 3, none⟩ = some (.int .i64 ms) := cells_of BM3.out 3
      have m4 : w3.cell? ⟨w.heap.size + 1, 4, none⟩ = some (.int .i64 ml) := cells_of BM3.out 4
      have m5 : w3.cell? ⟨w.heap.size + 1, 5, none⟩ = some (.string code) := cells_of BM3.out 5
      have m6 : w3.cell? ⟨w.heap.size + 1, 6, none⟩ = some (.slice A hs.length c) := cells_of BM3.out 6
      have BE4 := Lib.hid (BE3.out.alloc (by omega) (.cells #[.slice a nx c', .int .i64 d, .string (mkB rn), .bool true] 209))
      go_wp2
      all_goals
        go_ret
        refine ⟨ret_i ?_, BE4.out⟩
        rw [HE1.out, HV.out]
        simp_all
  · have hne1 : (sn.toList == [60, 105, 110, 105, 116, 62]) = false := by
      have := str_beq sn initN
      rw [decide_eq_false h1, show initN.toList = [60, 105, 110, 105, 116, 62] from toList_data initN] at this
      exact this
    by_cases h2 : sn = clinitN
    · have HE1 := Lib.hid (show R = if fl = 1 ∧ sd = voidD then 0 else 10 by rw [HE.out, if_neg h1, if_pos h2])
      subst h2
      unfold clinitN at HTN
      clear HE h1 hne1 HM
      by_cases hz : fl = 1
      · by_cases hd : sd = voidD
        · have HR := Lib.hid (show R = 0 by rw [HE1.out, if_pos ⟨hz, hd⟩])
          subst hz hd
          unfold voidD at HTD
          clear HE1
          go_enter Tryz.func156, Tryz.ntmps156
          go_wp2_with fail
          refine (HTN.out _ _ FL.out (by simp; omega)).mono ?_
          rintro e w1 ⟨rfl, hb⟩
          have BE1 := Lib.hid (Below.link BE.out hb)
          have FL1 := Lib.hid (FL.out.below hb (Nat.le_trans hB BE.out.size))
          have BF1 := Lib.hid (BF.out.below hb (by have := BF.out.lt; omega))
          have BM1 := Lib.hid (Below.keep hb (by have := lt_of_block BM.out; omega) BM.out)
          have ltf1 := BF1.out.lt
          have ltm1 := lt_of_block BM1.out
          clear hb
          obtain ⟨c0, c1, c2, c3, c4, c5, c6⟩ := BF1.out.cells
          have m0 : w1.cell? ⟨w.heap.size + 1, 0, none⟩ = some (.int .i64 1) := cells_of BM1.out 0
          have m1 : w1.cell? ⟨w.heap.size + 1, 1, none⟩ = some (.int .i64 nm) := cells_of BM1.out 1
          have m2 : w1.cell? ⟨w.heap.size + 1, 2, none⟩ = some (.int .i64 ds) := cells_of BM1.out 2
          have m3 : w1.cell? ⟨w.heap.size + 1, 3, none⟩ = some (.int .i64 ms) := cells_of BM1.out 3
          have m4 : w1.cell? ⟨w.heap.size + 1, 4, none⟩ = some (.int .i64 ml) := cells_of BM1.out 4
          have m5 : w1.cell? ⟨w.heap.size + 1, 5, none⟩ = some (.string code) := cells_of BM1.out 5
          have m6 : w1.cell? ⟨w.heap.size + 1, 6, none⟩ = some (.slice A hs.length c) := cells_of BM1.out 6
          go_wp2_with fail
          refine (HTD.out _ _ FL1.out (by omega)).mono ?_
          rintro e w2 ⟨rfl, hb⟩
          clear c0 c1 c2 c3 c4 c5 c6 m0 m1 m2 m3 m4 m5 m6
          have BE2 := Lib.hid (Below.link BE1.out hb)
          have FL2 := Lib.hid (FL1.out.below hb (Nat.le_trans hB BE1.out.size))
          have BF2 := Lib.hid (BF1.out.below hb (by have := BF1.out.lt; omega))
          have BM2 := Lib.hid (Below.keep hb (by have := lt_of_block BM1.out; omega) BM1.out)
          have ltf2 := BF2.out.lt
          have ltm2 := lt_of_block BM2.out
          clear hb
          obtain ⟨c0, c1, c2, c3, c4, c5, c6⟩ := BF2.out.cells
          have m0 : w2.cell? ⟨w.heap.size + 1, 0, none⟩ = some (.int .i64 1) := cells_of BM2.out 0
          have m1 : w2.cell? ⟨w.heap.size + 1, 1, none⟩ = some (.int .i64 nm) := cells_of BM2.out 1
          have m2 : w2.cell? ⟨w.heap.size + 1, 2, none⟩ = some (.int .i64 ds) := cells_of BM2.out 2
          have m3 : w2.cell? ⟨w.heap.size + 1, 3, none⟩ = some (.int .i64 ms) := cells_of BM2.out 3
          have m4 : w2.cell? ⟨w.heap.size + 1, 4, none⟩ = some (.int .i64 ml) := cells_of BM2.out 4
          have m5 : w2.cell? ⟨w.heap.size + 1, 5, none⟩ = some (.string code) := cells_of BM2.out 5
          have m6 : w2.cell? ⟨w.heap.size + 1, 6, none⟩ = some (.slice A hs.length c) := cells_of BM2.out 6
          go_wp2
          go_ret
          exact ⟨ret_i HR.out.symm, BE2.out⟩
        · have HR := Lib.hid (show R = 10 by rw [HE1.out, if_neg (fun h => hd h.2)])
          have hne : (sd.toList == [40, 41, 86]) = false := by
            have := str_beq sd voidD
            rw [decide_eq_false hd, show voidD.toList = [40, 41, 86] from toList_data voidD] at this
            exact this
          subst hz
          clear HE1 hd
          go_enter Tryz.func156, Tryz.ntmps156
          go_wp2_with fail
          refine (HTN.out _ _ FL.out (by simp; omega)).mono ?_
          rintro e w1 ⟨rfl, hb⟩
          have BE1 := Lib.hid (Below.link BE.out hb)
          have FL1 := Lib.hid (FL.out.below hb (Nat.le_trans hB BE.out.size))
          have BF1 := Lib.hid (BF.out.below hb (by have := BF.out.lt; omega))
          have BM1 := Lib.hid (Below.keep hb (by have := lt_of_block BM.out; omega) BM.out)
          have ltf1 := BF1.out.lt
          have ltm1 := lt_of_block BM1.out
          clear hb
          obtain ⟨c0, c1, c2, c3, c4, c5, c6⟩ := BF1.out.cells
          have m0 : w1.cell? ⟨w.heap.size + 1, 0, none⟩ = some (.int .i64 1) := cells_of BM1.out 0
          have m1 : w1.cell? ⟨w.heap.size + 1, 1, none⟩ = some (.int .i64 nm) := cells_of BM1.out 1
          have m2 : w1.cell? ⟨w.heap.size + 1, 2, none⟩ = some (.int .i64 ds) := cells_of BM1.out 2
          have m3 : w1.cell? ⟨w.heap.size + 1, 3, none⟩ = some (.int .i64 ms) := cells_of BM1.out 3
          have m4 : w1.cell? ⟨w.heap.size + 1, 4, none⟩ = some (.int .i64 ml) := cells_of BM1.out 4
          have m5 : w1.cell? ⟨w.heap.size + 1, 5, none⟩ = some (.string code) := cells_of BM1.out 5
          have m6 : w1.cell? ⟨w.heap.size + 1, 6, none⟩ = some (.slice A hs.length c) := cells_of BM1.out 6
          go_wp2_with fail
          refine (HTD.out _ _ FL1.out (by omega)).mono ?_
          rintro e w2 ⟨rfl, hb⟩
          clear c0 c1 c2 c3 c4 c5 c6 m0 m1 m2 m3 m4 m5 m6
          have BE2 := Lib.hid (Below.link BE1.out hb)
          have FL2 := Lib.hid (FL1.out.below hb (Nat.le_trans hB BE1.out.size))
          have BF2 := Lib.hid (BF1.out.below hb (by have := BF1.out.lt; omega))
          have BM2 := Lib.hid (Below.keep hb (by have := lt_of_block BM1.out; omega) BM1.out)
          have ltf2 := BF2.out.lt
          have ltm2 := lt_of_block BM2.out
          clear hb
          obtain ⟨c0, c1, c2, c3, c4, c5, c6⟩ := BF2.out.cells
          have m0 : w2.cell? ⟨w.heap.size + 1, 0, none⟩ = some (.int .i64 1) := cells_of BM2.out 0
          have m1 : w2.cell? ⟨w.heap.size + 1, 1, none⟩ = some (.int .i64 nm) := cells_of BM2.out 1
          have m2 : w2.cell? ⟨w.heap.size + 1, 2, none⟩ = some (.int .i64 ds) := cells_of BM2.out 2
          have m3 : w2.cell? ⟨w.heap.size + 1, 3, none⟩ = some (.int .i64 ms) := cells_of BM2.out 3
          have m4 : w2.cell? ⟨w.heap.size + 1, 4, none⟩ = some (.int .i64 ml) := cells_of BM2.out 4
          have m5 : w2.cell? ⟨w.heap.size + 1, 5, none⟩ = some (.string code) := cells_of BM2.out 5
          have m6 : w2.cell? ⟨w.heap.size + 1, 6, none⟩ = some (.slice A hs.length c) := cells_of BM2.out 6
          go_wp2
          go_ret
          exact ⟨ret_i HR.out.symm, BE2.out⟩
      · have HR := Lib.hid (show R = 10 by rw [HE1.out, if_neg (fun h => hz h.1)])
        have hz' : (fl == 1) = false := by simpa using hz
        clear HE1 hz
        go_enter Tryz.func156, Tryz.ntmps156
        go_wp2_with fail
        refine (HTN.out _ _ FL.out (by simp; omega)).mono ?_
        rintro e w1 ⟨rfl, hb⟩
        have BE1 := Lib.hid (Below.link BE.out hb)
        have FL1 := Lib.hid (FL.out.below hb (Nat.le_trans hB BE.out.size))
        have BF1 := Lib.hid (BF.out.below hb (by have := BF.out.lt; omega))
        have BM1 := Lib.hid (Below.keep hb (by have := lt_of_block BM.out; omega) BM.out)
        have ltf1 := BF1.out.lt
        have ltm1 := lt_of_block BM1.out
        clear hb
        obtain ⟨c0, c1, c2, c3, c4, c5, c6⟩ := BF1.out.cells
        have m0 : w1.cell? ⟨w.heap.size + 1, 0, none⟩ = some (.int .i64 fl) := cells_of BM1.out 0
        have m1 : w1.cell? ⟨w.heap.size + 1, 1, none⟩ = some (.int .i64 nm) := cells_of BM1.out 1
        have m2 : w1.cell? ⟨w.heap.size + 1, 2, none⟩ = some (.int .i64 ds) := cells_of BM1.out 2
        have m3 : w1.cell? ⟨w.heap.size + 1, 3, none⟩ = some (.int .i64 ms) := cells_of BM1.out 3
        have m4 : w1.cell? ⟨w.heap.size + 1, 4, none⟩ = some (.int .i64 ml) := cells_of BM1.out 4
        have m5 : w1.cell? ⟨w.heap.size + 1, 5, none⟩ = some (.string code) := cells_of BM1.out 5
        have m6 : w1.cell? ⟨w.heap.size + 1, 6, none⟩ = some (.slice A hs.length c) := cells_of BM1.out 6
        go_wp2
        go_ret
        exact ⟨ret_i HR.out.symm, BE1.out⟩
    · have HR := Lib.hid (show R = 0 by rw [HE.out, if_neg h1, if_neg h2])
      have hne2 : (sn.toList == [60, 99, 108, 105, 110, 105, 116, 62]) = false := by
        have := str_beq sn clinitN
        rw [decide_eq_false h2, show clinitN.toList = [60, 99, 108, 105, 110, 105, 116, 62] from toList_data clinitN] at this
        exact this
      clear HE h1 h2 HM
      go_enter Tryz.func156, Tryz.ntmps156
      go_wp2_with fail
      refine (HTN.out _ _ FL.out (by simp; omega)).mono ?_
      rintro e w1 ⟨rfl, hb⟩
      have BE1 := Lib.hid (Below.link BE.out hb)
      have FL1 := Lib.hid (FL.out.below hb (Nat.le_trans hB BE.out.size))
      have BF1 := Lib.hid (BF.out.below hb (by have := BF.out.lt; omega))
      have BM1 := Lib.hid (Below.keep hb (by have := lt_of_block BM.out; omega) BM.out)
      have ltf1 := BF1.out.lt
      have ltm1 := lt_of_block BM1.out
      clear hb
      obtain ⟨c0, c1, c2, c3, c4, c5, c6⟩ := BF1.out.cells
      have m0 : w1.cell? ⟨w.heap.size + 1, 0, none⟩ = some (.int .i64 fl) := cells_of BM1.out 0
      have m1 : w1.cell? ⟨w.heap.size + 1, 1, none⟩ = some (.int .i64 nm) := cells_of BM1.out 1
      have m2 : w1.cell? ⟨w.heap.size + 1, 2, none⟩ = some (.int .i64 ds) := cells_of BM1.out 2
      have m3 : w1.cell? ⟨w.heap.size + 1, 3, none⟩ = some (.int .i64 ms) := cells_of BM1.out 3
      have m4 : w1.cell? ⟨w.heap.size + 1, 4, none⟩ = some (.int .i64 ml) := cells_of BM1.out 4
      have m5 : w1.cell? ⟨w.heap.size + 1, 5, none⟩ = some (.string code) := cells_of BM1.out 5
      have m6 : w1.cell? ⟨w.heap.size + 1, 6, none⟩ = some (.slice A hs.length c) := cells_of BM1.out 6
      go_wp2
      go_ret
      exact ⟨ret_i HR.out.symm, BE1.out⟩
end Go.Proofs.YtmaknddlgppinaaGreatDoor
/-! E8 -/
namespace Go.Proofs.YtmaknddlgppinaaGreatDoor
open Go.RowKit

/-- The error of a row of an exception table, over code of n bytes; of a member's body. -/
def hdlE (p : List Cn) (n : Nat) (h : Hd) : Int :=
  if h.fr < 0 ∨ h.to ≤ h.fr ∨ (n : Int) < h.to ∨ h.at_ < 0 ∨ (n : Int) ≤ h.at_ then 1 else if noneB p h.cl = true then 0 else 7
def bodyE (p : List Cn) (m : Mb) : Int :=
  if m.fl = 2 then extraE m
  else if m.ms < 0 ∨ 64 < m.ms ∨ m.ml < 0 ∨ 64 < m.ml then 26
  else if m.code.size = 0 then 5
  else if 4096 < m.code.size then 2
  else if 32 < m.hs.length then 3
  else firstErr (hdlE p m.code.size) m.hs
theorem HRow.len {B : Nat} {w : World} {v : Value} {hs : List Hd} (h : HRow B w v hs) : hs.length ≤ 9223372036854775807 := by
  obtain ⟨_, _, _, _, h, _⟩ := h
  unfold maxLen at h
  exact h
set_option maxRecDepth 1000000 in
set_option maxHeartbeats 6400000 in
theorem bodyErr_any {B : Nat} (f : Fl) (v : Value) (w : World) (hf : FileAt B w v f) (hB : B ≤ w.heap.size) (m : Mb) (A : Option Addr) (c : Nat) (hr : HRow B w (.slice A m.hs.length c) m.hs) :
    Calls Tryz.prog 157 #[v, .agg #[.int .i64 m.fl, .int .i64 m.nm, .int .i64 m.ds, .int .i64 m.ms, .int .i64 m.ml, .string m.code, .slice A m.hs.length c]] w fun e w' => e = .returned (.int .i64 (bodyE f.pool m)) ∧ Below w.heap.size w w' := by
  have hrl := hr.len
  have HX := Lib.hid (fun V W hW hWB => extraErr_any (B := B) f V W hW hWB m A c)
  have HN := Lib.hid (fun r V W hW hWB i h => none_at (B := B) r f V W hW hWB i h)
  obtain ⟨fl, nm, ds, ms, ml, code, hs⟩ := m
  simp only at hr hrl HX ⊢
  have HE := Lib.hid (show bodyE f.pool ⟨fl, nm, ds, ms, ml, code, hs⟩ = if fl = 2 then extraE ⟨fl, nm, ds, ms, ml, code, hs⟩
    else if ms < 0 ∨ 64 < ms ∨ ml < 0 ∨ 64 < ml then 26 else if code.size = 0 then 5 else if 4096 < code.size then 2 else if 32 < hs.length then 3
    else firstErr (hdlE f.pool code.size) hs from rfl)
  have HRW := Lib.hid hr
  clear hr
  generalize bodyE f.pool ⟨fl, nm, ds, ms, ml, code, hs⟩ = R at *
  obtain ⟨Ap, cp, Ai, ci, Af, cf, Am, cm, rfl, hi⟩ := id hf
  have FL := Lib.hid ((hf.alloc hB (.cells #[.slice Ap f.pool.length cp, .int .i64 f.fl, .int .i64 f.this, .int .i64 f.super, .slice Ai f.ifs.length ci, .slice Af f.fds.length cf, .slice Am f.mts.length cm] 94)).alloc (le_alloc hB _) (.cells #[.int .i64 fl, .int .i64 nm, .int .i64 ds, .int .i64 ms, .int .i64 ml, .string code, .slice A hs.length c] 141))
  have BE := Lib.hid (((Below.refl w.heap.size w).alloc (Nat.le_refl _) (.cells #[.slice Ap f.pool.length cp, .int .i64 f.fl, .int .i64 f.this, .int .i64 f.super, .slice Ai f.ifs.length ci, .slice Af f.fds.length cf, .slice Am f.mts.length cm] 94)).alloc (le_alloc (Nat.le_refl _) _) (.cells #[.int .i64 fl, .int .i64 nm, .int .i64 ds, .int .i64 ms, .int .i64 ml, .string code, .slice A hs.length c] 141))
  have BF := Lib.hid ((FBox.new Ap cp Ai ci Af cf Am cm f w).alloc (.cells #[.int .i64 fl, .int .i64 nm, .int .i64 ds, .int .i64 ms, .int .i64 ml, .string code, .slice A hs.length c] 141))
  have BM := Lib.hid (heap_new2 w (.cells #[.slice Ap f.pool.length cp, .int .i64 f.fl, .int .i64 f.this, .int .i64 f.super, .slice Ai f.ifs.length ci, .slice Af f.fds.length cf, .slice Am f.mts.length cm] 94) (.cells #[.int .i64 fl, .int .i64 nm, .int .i64 ds, .int .i64 ms, .int .i64 ml, .string code, .slice A hs.length c] 141))
  clear hi hf
  by_cases h2 : fl = 2
  · have HR := Lib.hid (show R = extraE ⟨fl, nm, ds, ms, ml, code, hs⟩ by rw [HE.out, if_pos h2])
    subst h2
    go_enter Tryz.func157, Tryz.ntmps157
    go_wp2_with fail
    refine (HX.out _ _ FL.out (by simp; omega)).mono ?_
    rintro e w1 ⟨rfl, hb⟩
    have BE1 := Lib.hid (Below.link BE.out hb)
    clear hb
    go_wp2
    go_ret
    exact ⟨ret_i HR.out.symm, BE1.out⟩
  have g2 : (fl == 2) = false := by simpa using h2
  by_cases hms : ms < 0 ∨ 64 < ms ∨ ml < 0 ∨ 64 < ml
  · have HR := Lib.hid (show R = 26 by rw [HE.out, if_neg h2, if_pos hms])
    clear h2 HE
    by_cases q1 : ms < 0
    · clear hms
      go_enter Tryz.func157, Tryz.ntmps157
      go_wp2
      go_ret
      exact ⟨ret_i HR.out.symm, BE.out⟩
    have q1' : 0 ≤ ms := by omega
    by_cases q2 : 64 < ms
    · clear hms q1
      go_enter Tryz.func157, Tryz.ntmps157
      go_wp2
      go_ret
      exact ⟨ret_i HR.out.symm, BE.out⟩
    have q2' : ms ≤ 64 := by omega
    by_cases q3 : ml < 0
    · clear hms q1 q2
      go_enter Tryz.func157, Tryz.ntmps157
      go_wp2
      go_ret
      exact ⟨ret_i HR.out.symm, BE.out⟩
    have q3' : 0 ≤ ml := by omega
    have q4 : 64 < ml := by omega
    clear hms q1 q2 q3
    go_enter Tryz.func157, Tryz.ntmps157
    go_wp2
    go_ret
    exact ⟨ret_i HR.out.symm, BE.out⟩
  have q1 : 0 ≤ ms := by omega
  have q2 : ms ≤ 64 := by omega
  have q3 : 0 ≤ ml := by omega
  have q4 : ml ≤ 64 := by omega
  rcases str_nil (s := code) with ⟨hx, e1, e2⟩ | ⟨hx, e1, e2⟩
  · have HR := Lib.hid (show R = 5 by rw [HE.out, if_neg h2, if_neg hms, if_pos hx])
    clear h2 HE hms
    go_enter Tryz.func157, Tryz.ntmps157
    go_wp2
    go_ret
    exact ⟨ret_i HR.out.symm, BE.out⟩
  by_cases h4 : 4096 < code.size
  · have HR := Lib.hid (show R = 2 by rw [HE.out, if_neg h2, if_neg hms, if_neg (by omega), if_pos h4])
    have h4' : (4096 : Int) < code.size := by omega
    clear h2 HE hms
    go_enter Tryz.func157, Tryz.ntmps157
    go_wp2
    go_ret
    exact ⟨ret_i HR.out.symm, BE.out⟩
  have h4' : (code.size : Int) ≤ 4096 := by omega
  by_cases h5 : 32 < hs.length
  · have HR := Lib.hid (show R = 3 by rw [HE.out, if_neg h2, if_neg hms, if_neg (by omega), if_neg h4, if_pos h5])
    have h5' : (32 : Int) < hs.length := by omega
    clear h2 HE hms h4
    go_enter Tryz.func157, Tryz.ntmps157
    go_wp2
    go_ret
    exact ⟨ret_i HR.out.symm, BE.out⟩
  have h5' : (hs.length : Int) ≤ 32 := by omega
  have HR := Lib.hid (show R = firstErr (hdlE f.pool code.size) hs by rw [HE.out, if_neg h2, if_neg hms, if_neg (by omega), if_neg h4, if_neg h5])
  clear h2 HE hms h4 h5
  go_enter Tryz.func157, Tryz.ntmps157
  go_wp2
  go_loopg [50] hs.length (fun g iv wx => ∃ k : Nat, iv = .int .i64 k ∧ k + g = hs.length ∧ firstErr (hdlE f.pool code.size) (hs.take k) = 0 ∧ FBox w.heap.size Ap cp Ai ci Af cf Am cm f wx ∧ wx.heap[w.heap.size + 1]? = some (.cells #[.int .i64 fl, .int .i64 nm, .int .i64 ds, .int .i64 ms, .int .i64 ml, .string code, .slice A hs.length c] 141 (0, 0)) ∧ FileAt B wx (.agg #[.slice Ap f.pool.length cp, .int .i64 f.fl, .int .i64 f.this, .int .i64 f.super, .slice Ai f.ifs.length ci, .slice Af f.fds.length cf, .slice Am f.mts.length cm]) f ∧ Below w.heap.size w wx)
  case atStart => exact ⟨0, rfl, by omega, rfl, BF.out, BM.out, FL.out, BE.out⟩
  case round =>
    obtain ⟨k, rfl, hkg, hfe, hbf, hbm, hfl, hbe⟩ := hrel
    have HFE := Lib.hid hfe
    have BF1 := Lib.hid hbf
    have BM1 := Lib.hid hbm
    have FL1 := Lib.hid hfl
    have BE1 := Lib.hid hbe
    have ltf := hbf.lt
    have ltm := lt_of_block hbm
    obtain ⟨c0, c1, c2, c3, c4, c5, c6⟩ := hbf.cells
    have m0 : wr.cell? ⟨w.heap.size + 1, 0, none⟩ = some (.int .i64 fl) := cells_of hbm 0
    have m1 : wr.cell? ⟨w.heap.size + 1, 1, none⟩ = some (.int .i64 nm) := cells_of hbm 1
    have m2 : wr.cell? ⟨w.heap.size + 1, 2, none⟩ = some (.int .i64 ds) := cells_of hbm 2
    have m3 : wr.cell? ⟨w.heap.size + 1, 3, none⟩ = some (.int .i64 ms) := cells_of hbm 3
    have m4 : wr.cell? ⟨w.heap.size + 1, 4, none⟩ = some (.int .i64 ml) := cells_of hbm 4
    have m5 : wr.cell? ⟨w.heap.size + 1, 5, none⟩ = some (.string code) := cells_of hbm 5
    have m6 : wr.cell? ⟨w.heap.size + 1, 6, none⟩ = some (.slice A hs.length c) := cells_of hbm 6
    clear hfe hbf hbm hfl hbe
    by_cases hk : k < hs.length
    · have hgg : gk - 1 < gk := by omega
      obtain ⟨x, hx⟩ : ∃ x, hs[k]? = some x := ⟨_, List.getElem?_eq_getElem hk⟩
      obtain ⟨b, o, rfl, hbb, x0, x1, x2, x3⟩ := (show HRow B wr _ hs from Row.keep HRW.out fun p hp => BE1.out.cell (p := p) (by omega)).at_ hx
      have HNX := Lib.hid (firstErr_next (hdlE f.pool code.size) hs k x hx HFE.out)
      have HST := Lib.hid (fun h => firstErr_stop (hdlE f.pool code.size) hs (k + 1) h)
      have HXE := Lib.hid (show hdlE f.pool code.size x = if x.fr < 0 ∨ x.to ≤ x.fr ∨ (code.size : Int) < x.to ∨ x.at_ < 0 ∨ (code.size : Int) ≤ x.at_ then 1 else if noneB f.pool x.cl = true then 0 else 7 from rfl)
      have FL2 := Lib.hid (FL1.out.alloc (by omega) (.cells #[.int .i64 x.fr, .int .i64 x.to, .int .i64 x.at_, .int .i64 x.cl] 170))
      clear hx
      by_cases hbad : x.fr < 0 ∨ x.to ≤ x.fr ∨ (code.size : Int) < x.to ∨ x.at_ < 0 ∨ (code.size : Int) ≤ x.at_
      · have HR1 := Lib.hid (show R = 1 by rw [HR.out, HST.out (by rw [HNX.out, HXE.out, if_pos hbad]; decide), HNX.out, HXE.out, if_pos hbad])
        have BE2 := Lib.hid (BE1.out.alloc (by omega) (.cells #[.int .i64 x.fr, .int .i64 x.to, .int .i64 x.at_, .int .i64 x.cl] 170))
        by_cases p1 : x.fr < 0
        · clear hbad
          go_wp2
          go_ret
          exact ⟨ret_i HR1.out.symm, BE2.out⟩
        have p1' : 0 ≤ x.fr := by omega
        by_cases p2 : x.to ≤ x.fr
        · clear hbad p1
          go_wp2
          go_ret
          exact ⟨ret_i HR1.out.symm, BE2.out⟩
        have p2' : x.fr < x.to := by omega
        by_cases p3 : (code.size : Int) < x.to
        · clear hbad p1 p2
          go_wp2
          go_ret
          exact ⟨ret_i HR1.out.symm, BE2.out⟩
        have p3' : x.to ≤ (code.size : Int) := by omega
        by_cases p4 : x.at_ < 0
        · clear hbad p1 p2 p3
          go_wp2
          go_ret
          exact ⟨ret_i HR1.out.symm, BE2.out⟩
        have p4' : 0 ≤ x.at_ := by omega
        have p5 : (code.size : Int) ≤ x.at_ := by omega
        clear hbad p1 p2 p3 p4
        go_wp2
        go_ret
        exact ⟨ret_i HR1.out.symm, BE2.out⟩
      · have p1' : 0 ≤ x.fr := by omega
        have p2' : x.fr < x.to := by omega
        have p3' : x.to ≤ (code.size : Int) := by omega
        have p4' : 0 ≤ x.at_ := by omega
        have p5' : x.at_ < (code.size : Int) := by omega
        have HXE2 := Lib.hid (show hdlE f.pool code.size x = if noneB f.pool x.cl = true then 0 else 7 by rw [HXE.out, if_neg hbad])
        clear hbad HXE
        cases hn : noneB f.pool x.cl with
        | false =>
          have HNB := Lib.hid hn
          have HR1 := Lib.hid (show R = 7 by rw [HR.out, HST.out (by rw [HNX.out, HXE2.out, hn]; decide), HNX.out, HXE2.out, hn]; rfl)
          clear hn
          go_wp2_with fail
          refine (HN.out false _ _ FL2.out (by simp; omega) _ HNB.out).mono ?_
          rintro e w1 ⟨rfl, hb⟩
          have BE2 := Lib.hid (Below.link (BE1.out.alloc (by omega) (.cells #[.int .i64 x.fr, .int .i64 x.to, .int .i64 x.at_, .int .i64 x.cl] 170)) hb)
          clear hb c0 c1 c2 c3 c4 c5 c6 m0 m1 m2 m3 m4 m5 m6 x0 x1 x2 x3
          go_wp2
          go_ret
          exact ⟨ret_i HR1.out.symm, BE2.out⟩
        | true =>
          have HNB := Lib.hid hn
          have HX0 := Lib.hid (show hdlE f.pool code.size x = 0 by rw [HXE2.out, hn]; rfl)
          clear hn
          go_wp2_with fail
          refine (HN.out true _ _ FL2.out (by simp; omega) _ HNB.out).mono ?_
          rintro e w1 ⟨rfl, hb⟩
          have BE2 := Lib.hid (Below.link (BE1.out.alloc (by omega) (.cells #[.int .i64 x.fr, .int .i64 x.to, .int .i64 x.at_, .int .i64 x.cl] 170)) hb)
          have BF2 := Lib.hid ((BF1.out.alloc (.cells #[.int .i64 x.fr, .int .i64 x.to, .int .i64 x.at_, .int .i64 x.cl] 170)).below hb (by simp; omega))
          have BM2 := Lib.hid (Below.keep hb (by simp; omega) (heap_alloc_lt (o := (.cells #[.int .i64 x.fr, .int .i64 x.to, .int .i64 x.at_, .int .i64 x.cl] 170)) BM1.out))
          have FL3 := Lib.hid (FL2.out.below hb (by simp; omega))
          clear hb c0 c1 c2 c3 c4 c5 c6 m0 m1 m2 m3 m4 m5 m6 x0 x1 x2 x3
          go_wp2
          go_roundg (gk - 1)
          case measure => exact hgg
          case rel => exact ⟨k + 1, by go_num, by omega, HNX.out.trans HX0.out, BF2.out, BM2.out, FL3.out, BE2.out⟩
    · have HA := Lib.hid (show R = 0 by rw [HR.out]; have := HFE.out; rwa [List.take_of_length_le (by omega)] at this)
      go_wp2
      go_ret
      exact ⟨ret_i HA.out.symm, BE1.out⟩
end Go.Proofs.YtmaknddlgppinaaGreatDoor
