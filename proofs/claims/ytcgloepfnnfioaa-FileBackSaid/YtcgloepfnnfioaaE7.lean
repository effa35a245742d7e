/-
  WALKS of the errors of a member: what it has besides, a name that asks for a form, its body.
-/
import Derived.Test.YtcgloepfnnfioaaE6
set_option linter.unusedVariables false
set_option linter.unusedSimpArgs false
namespace Go.Proofs.Ytcgloepfnnfioaa
open Go.RowKit

def bareB (m : Mb) : Bool := decide (m.ms = 0) && decide (m.ml = 0) && decide (m.code.size = 0) && decide (m.hs.length = 0)
def extraE (m : Mb) : Int := if bareB m = true then 0 else 1
theorem str_nil {s : ByteArray} : (s.size = 0 ∧ s.toList = [] ∧ s.toList.isEmpty = true) ∨ (0 < s.size ∧ ¬ s.toList = [] ∧ s.toList.isEmpty = false) := by
  by_cases h : s.size = 0
  · exact .inl ⟨h, nil_of0 h, emp_of0 h⟩
  · exact .inr ⟨by omega, ne_ofpos (by omega), emp_ofpos (by omega)⟩
set_option maxRecDepth 1000000 in
set_option maxHeartbeats 6400000 in
theorem extraErr_any {B : Nat} (f : Fl) (v : Value) (w : World) (hf : FileAt B w v f) (hB : B ≤ w.heap.size) (m : Mb) (A : Option Addr) (c : Nat) :
    Calls Try.prog 42 #[v, .agg #[.int .i64 m.fl, .int .i64 m.nm, .int .i64 m.ds, .int .i64 m.ms, .int .i64 m.ml, .string m.code, .slice A m.hs.length c]] w fun e w' => e = .returned (.int .i64 (extraE m)) ∧ Below w.heap.size w w' := by
  obtain ⟨fl, nm, ds, ms, ml, code, hs⟩ := m
  have HE := Lib.hid (show extraE ⟨fl, nm, ds, ms, ml, code, hs⟩ = if (decide (ms = 0) && decide (ml = 0) && decide (code.size = 0) && decide (hs.length = 0)) = true then 0 else 1 from rfl)
  simp only
  generalize extraE ⟨fl, nm, ds, ms, ml, code, hs⟩ = R at *
  obtain ⟨Ap, cp, Ai, ci, Af, cf, Am, cm, rfl, hi⟩ := id hf
  have FL := Lib.hid ((hf.alloc hB (.cells #[.slice Ap f.pool.length cp, .int .i64 f.fl, .int .i64 f.this, .int .i64 f.super, .slice Ai f.ifs.length ci, .slice Af f.fds.length cf, .slice Am f.mts.length cm] 26)).alloc (le_alloc hB _) (.cells #[.int .i64 fl, .int .i64 nm, .int .i64 ds, .int .i64 ms, .int .i64 ml, .string code, .slice A hs.length c] 38))
  have BE := Lib.hid (((Below.refl w.heap.size w).alloc (Nat.le_refl _) (.cells #[.slice Ap f.pool.length cp, .int .i64 f.fl, .int .i64 f.this, .int .i64 f.super, .slice Ai f.ifs.length ci, .slice Af f.fds.length cf, .slice Am f.mts.length cm] 26)).alloc (le_alloc (Nat.le_refl _) _) (.cells #[.int .i64 fl, .int .i64 nm, .int .i64 ds, .int .i64 ms, .int .i64 ml, .string code, .slice A hs.length c] 38))
  have BF := Lib.hid ((FBox.new Ap cp Ai ci Af cf Am cm f w).alloc (.cells #[.int .i64 fl, .int .i64 nm, .int .i64 ds, .int .i64 ms, .int .i64 ml, .string code, .slice A hs.length c] 38))
  have BM := Lib.hid (heap_new2 w (.cells #[.slice Ap f.pool.length cp, .int .i64 f.fl, .int .i64 f.this, .int .i64 f.super, .slice Ai f.ifs.length ci, .slice Af f.fds.length cf, .slice Am f.mts.length cm] 26) (.cells #[.int .i64 fl, .int .i64 nm, .int .i64 ds, .int .i64 ms, .int .i64 ml, .string code, .slice A hs.length c] 38))
  clear hi hf
  generalize hs.length = n at *
  have hn : (n : Int) ≤ 0 ∨ 0 < (n : Int) := by omega
  rcases str_nil (s := code) with ⟨hx, e1, e2⟩ | ⟨hx, e1, e2⟩
  all_goals
    obtain ⟨S, hS⟩ : ∃ S, code.size = S := ⟨_, rfl⟩
    rw [hS] at hx HE
    clear hS
    by_cases h1 : ms = 0
    all_goals
      by_cases h2 : ml = 0
      all_goals
        by_cases h3 : n = 0
        all_goals
          have f1 : (ms == 0) = decide (ms = 0) := rfl
          have f2 : (ml == 0) = decide (ml = 0) := rfl
          have g1 : (ms != 0) = !decide (ms = 0) := rfl
          have g2 : (ml != 0) = !decide (ml = 0) := rfl
          have hn0 : n = 0 ∨ 0 < n := by omega
          first
            | subst h1
            | rw [decide_eq_false h1] at f1 g1
          first
            | subst h2
            | rw [decide_eq_false h2] at f2 g2
          first
            | (subst h3; clear hn hn0)
            | (have h3' : 0 < n := by omega
               have h3'' : (0 : Int) < n := by omega
               clear hn hn0)
          go_enter Try.func42, Try.ntmps42
          go_wp2
          go_ret
          refine ⟨ret_i ?_, BE.out⟩
          rw [HE.out]
          first
            | (simp; done)
            | (simp [*]; done)
            | (simp; omega)
/-- The error of a constructor, or a class's initialiser, that is not of its form. -/
def initN : ByteArray := ⟨#[60, 105, 110, 105, 116, 62]⟩
def clinitN : ByteArray := ⟨#[60, 99, 108, 105, 110, 105, 116, 62]⟩
def voidD : ByteArray := ⟨#[40, 41, 86]⟩
def voidB (s : ByteArray) : Bool := (res (methL (L s))).2.2.1
def specE (p : List Cn) (m : Mb) : Int :=
  if textP p m.nm = initN then (if m.fl = 0 ∧ voidB (textP p m.ds) = true then 0 else 10)
  else if textP p m.nm = clinitN then (if m.fl = 1 ∧ textP p m.ds = voidD then 0 else 10) else 0
set_option maxRecDepth 1000000 in
set_option maxHeartbeats 6400000 in
theorem specialErr_any {B : Nat} (f : Fl) (v : Value) (w : World) (hf : FileAt B w v f) (hB : B ≤ w.heap.size) (ht : Texts f.pool) (m : Mb) (A : Option Addr) (c : Nat) :
    Calls Try.prog 45 #[v, .agg #[.int .i64 m.fl, .int .i64 m.nm, .int .i64 m.ds, .int .i64 m.ms, .int .i64 m.ml, .string m.code, .slice A m.hs.length c]] w fun e w' => e = .returned (.int .i64 (specE f.pool m)) ∧ Below w.heap.size w w' := by
  obtain ⟨fl, nm, ds, ms, ml, code, hs⟩ := m
  have HE := Lib.hid (show specE f.pool ⟨fl, nm, ds, ms, ml, code, hs⟩ = if textP f.pool nm = initN then (if fl = 0 ∧ voidB (textP f.pool ds) = true then 0 else 10)
    else if textP f.pool nm = clinitN then (if fl = 1 ∧ textP f.pool ds = voidD then 0 else 10) else 0 from rfl)
  simp only
  generalize specE f.pool ⟨fl, nm, ds, ms, ml, code, hs⟩ = R at *
  have HT := Lib.hid (fun V W hW hWB i => textOf_any (B := B) f V W hW hWB i)
  have HM := fun W => Lib.hid (Method_any (textP f.pool ds) W (by have := textP_le ht ds; omega))
  have HTN := Lib.hid (fun V W (hW : FileAt B W V f) hWB => HT.out V W hW hWB nm)
  have HTD := Lib.hid (fun V W (hW : FileAt B W V f) hWB => HT.out V W hW hWB ds)
  obtain ⟨Ap, cp, Ai, ci, Af, cf, Am, cm, rfl, hi⟩ := id hf
  have FL := Lib.hid ((hf.alloc hB (.cells #[.slice Ap f.pool.length cp, .int .i64 f.fl, .int .i64 f.this, .int .i64 f.super, .slice Ai f.ifs.length ci, .slice Af f.fds.length cf, .slice Am f.mts.length cm] 26)).alloc (le_alloc hB _) (.cells #[.int .i64 fl, .int .i64 nm, .int .i64 ds, .int .i64 ms, .int .i64 ml, .string code, .slice A hs.length c] 38))
  have BE := Lib.hid (((Below.refl w.heap.size w).alloc (Nat.le_refl _) (.cells #[.slice Ap f.pool.length cp, .int .i64 f.fl, .int .i64 f.this, .int .i64 f.super, .slice Ai f.ifs.length ci, .slice Af f.fds.length cf, .slice Am f.mts.length cm] 26)).alloc (le_alloc (Nat.le_refl _) _) (.cells #[.int .i64 fl, .int .i64 nm, .int .i64 ds, .int .i64 ms, .int .i64 ml, .string code, .slice A hs.length c] 38))
  have BF := Lib.hid ((FBox.new Ap cp Ai ci Af cf Am cm f w).alloc (.cells #[.int .i64 fl, .int .i64 nm, .int .i64 ds, .int .i64 ms, .int .i64 ml, .string code, .slice A hs.length c] 38))
  have BM := Lib.hid (heap_new2 w (.cells #[.slice Ap f.pool.length cp, .int .i64 f.fl, .int .i64 f.this, .int .i64 f.super, .slice Ai f.ifs.length ci, .slice Af f.fds.length cf, .slice Am f.mts.length cm] 26) (.cells #[.int .i64 fl, .int .i64 nm, .int .i64 ds, .int .i64 ms, .int .i64 ml, .string code, .slice A hs.length c] 38))
  clear hi hf
  clear HT
  generalize textP f.pool nm = sn at *
  generalize textP f.pool ds = sd at *
  by_cases h1 : sn = initN
  · subst h1
    have HE1 := Lib.hid (show R = if fl = 0 ∧ voidB sd = true then 0 else 10 by rw [HE.out, if_pos rfl])
    unfold initN at HTN
    have HV := Lib.hid (show voidB sd = (res (methL (L sd))).2.2.1 from rfl)
    obtain ⟨⟨xs, ⟨d, rn⟩, vo, er⟩, hx⟩ : ∃ x, res (methL (L sd)) = x := ⟨_, rfl⟩
    rw [hx] at HM HV
    unfold sgV at HM
    simp only at HM HV
    clear hx HE
    have f1 : (fl == 0) = decide (fl = 0) := rfl
    cases vo
    all_goals (by_cases hz : fl = 0)
    · subst hz
      go_enter Try.func45, Try.ntmps45
      go_wp2_with fail
      refine (HTN.out _ _ FL.out (by simp; omega)).mono ?_
      rintro e w1 ⟨rfl, hb⟩
      have BE1 := Lib.hid (Below.link BE.out hb)
      have FL1 := Lib.hid (FL.out.below hb (Nat.le_trans hB BE.out.size))
      have BF1 := Lib.hid (BF.out.below hb (by have := BF.out.lt; omega))
      have BM1 := Lib.hid (Below.keep hb (by have := lt_of_block BM.out; omega) BM.out)
      have ltf1 := BF1.out.lt
      have ltm1 := lt_of_block BM1.out
      clear hb
      obtain ⟨c0, c1, c2, c3, c4, c5, c6⟩ := BF1.out.cells
      have m0 : w1.cell? ⟨w.heap.size + 1, 0, none⟩ = some (.int .i64 0) := cells_of BM1.out 0
      have m1 : w1.cell? ⟨w.heap.size + 1, 1, none⟩ = some (.int .i64 nm) := cells_of BM1.out 1
      have m2 : w1.cell? ⟨w.heap.size + 1, 2, none⟩ = some (.int .i64 ds) := cells_of BM1.out 2
      have m3 : w1.cell? ⟨w.heap.size + 1, 3, none⟩ = some (.int .i64 ms) := cells_of BM1.out 3
      have m4 : w1.cell? ⟨w.heap.size + 1, 4, none⟩ = some (.int .i64 ml) := cells_of BM1.out 4
      have m5 : w1.cell? ⟨w.heap.size + 1, 5, none⟩ = some (.string code) := cells_of BM1.out 5
      have m6 : w1.cell? ⟨w.heap.size + 1, 6, none⟩ = some (.slice A hs.length c) := cells_of BM1.out 6
      go_wp2_with fail
      refine (HTD.out _ _ FL1.out (by omega)).mono ?_
      rintro e w2 ⟨rfl, hb⟩
      clear c0 c1 c2 c3 c4 c5 c6 m0 m1 m2 m3 m4 m5 m6
      have BE2 := Lib.hid (Below.link BE1.out hb)
      have FL2 := Lib.hid (FL1.out.below hb (Nat.le_trans hB BE1.out.size))
      have BF2 := Lib.hid (BF1.out.below hb (by have := BF1.out.lt; omega))
      have BM2 := Lib.hid (Below.keep hb (by have := lt_of_block BM1.out; omega) BM1.out)
      have ltf2 := BF2.out.lt
      have ltm2 := lt_of_block BM2.out
      clear hb
      obtain ⟨c0, c1, c2, c3, c4, c5, c6⟩ := BF2.out.cells
      have m0 : w2.cell? ⟨w.heap.size + 1, 0, none⟩ = some (.int .i64 0) := cells_of BM2.out 0
      have m1 : w2.cell? ⟨w.heap.size + 1, 1, none⟩ = some (.int .i64 nm) := cells_of BM2.out 1
      have m2 : w2.cell? ⟨w.heap.size + 1, 2, none⟩ = some (.int .i64 ds) := cells_of BM2.out 2
      have m3 : w2.cell? ⟨w.heap.size + 1, 3, none⟩ = some (.int .i64 ms) := cells_of BM2.out 3
      have m4 : w2.cell? ⟨w.heap.size + 1, 4, none⟩ = some (.int .i64 ml) := cells_of BM2.out 4
      have m5 : w2.cell? ⟨w.heap.size + 1, 5, none⟩ = some (.string code) := cells_of BM2.out 5
      have m6 : w2.cell? ⟨w.heap.size + 1, 6, none⟩ = some (.slice A hs.length c) := cells_of BM2.out 6
      go_wp2_with fail
      refine (HM _).out.mono ?_
      rintro e w3 ⟨v3, rfl, own, hb⟩
      obtain ⟨a, c', rfl⟩ := own_form own
      generalize xs.length = nx at *
      clear c0 c1 c2 c3 c4 c5 c6 m0 m1 m2 m3 m4 m5 m6
      have BE3 := Lib.hid (Below.link BE2.out hb)
      have FL3 := Lib.hid (FL2.out.below hb (Nat.le_trans hB BE2.out.size))
      have BF3 := Lib.hid (BF2.out.below hb (by have := BF2.out.lt; omega))
      have BM3 := Lib.hid (Below.keep hb (by have := lt_of_block BM2.out; omega) BM2.out)
      have ltf3 := BF3.out.lt
      have ltm3 := lt_of_block BM3.out
      clear hb own
      obtain ⟨c0, c1, c2, c3, c4, c5, c6⟩ := BF3.out.cells
      have m0 : w3.cell? ⟨w.heap.size + 1, 0, none⟩ = some (.int .i64 0) := cells_of BM3.out 0
      have m1 : w3.cell? ⟨w.heap.size + 1, 1, none⟩ = some (.int .i64 nm) := cells_of BM3.out 1
      have m2 : w3.cell? ⟨w.heap.size + 1, 2, none⟩ = some (.int .i64 ds) := cells_of BM3.out 2
      have m3 : w3.cell? ⟨w.heap.size + 1, 3, none⟩ = some (.int .i64 ms) := cells_of BM3.out 3
      have m4 : w3.cell? ⟨w.heap.size + 1, 4, none⟩ = some (.int .i64 ml) := cells_of BM3.out 4
      have m5 : w3.cell? ⟨w.heap.size + 1, 5, none⟩ = some (.string code) := cells_of BM3.out 5
      have m6 : w3.cell? ⟨w.heap.size + 1, 6, none⟩ = some (.slice A hs.length c) := cells_of BM3.out 6
      have BE4 := Lib.hid (BE3.out.alloc (by omega) (.cells #[.slice a nx c', .int .i64 d, .string (mkB rn), .bool false] 100))
      go_wp2
      all_goals
        go_ret
        refine ⟨ret_i ?_, BE4.out⟩
        rw [HE1.out, HV.out]
        simp_all
    · rw [decide_eq_false hz] at f1
      go_enter Try.func45, Try.ntmps45
      go_wp2_with fail
      refine (HTN.out _ _ FL.out (by simp; omega)).mono ?_
      rintro e w1 ⟨rfl, hb⟩
      have BE1 := Lib.hid (Below.link BE.out hb)
      have FL1 := Lib.hid (FL.out.below hb (Nat.le_trans hB BE.out.size))
      have BF1 := Lib.hid (BF.out.below hb (by have := BF.out.lt; omega))
      have BM1 := Lib.hid (Below.keep hb (by have := lt_of_block BM.out; omega) BM.out)
      have ltf1 := BF1.out.lt
      have ltm1 := lt_of_block BM1.out
      clear hb
      obtain ⟨c0, c1, c2, c3, c4, c5, c6⟩ := BF1.out.cells
      have m0 : w1.cell? ⟨w.heap.size + 1, 0, none⟩ = some (.int .i64 fl) := cells_of BM1.out 0
      have m1 : w1.cell? ⟨w.heap.size + 1, 1, none⟩ = some (.int .i64 nm) := cells_of BM1.out 1
      have m2 : w1.cell? ⟨w.heap.size + 1, 2, none⟩ = some (.int .i64 ds) := cells_of BM1.out 2
      have m3 : w1.cell? ⟨w.heap.size + 1, 3, none⟩ = some (.int .i64 ms) := cells_of BM1.out 3
      have m4 : w1.cell? ⟨w.heap.size + 1, 4, none⟩ = some (.int .i64 ml) := cells_of BM1.out 4
      have m5 : w1.cell? ⟨w.heap.size + 1, 5, none⟩ = some (.string code) := cells_of BM1.out 5
      have m6 : w1.cell? ⟨w.heap.size + 1, 6, none⟩ = some (.slice A hs.length c) := cells_of BM1.out 6
      go_wp2_with fail
      refine (HTD.out _ _ FL1.out (by omega)).mono ?_
      rintro e w2 ⟨rfl, hb⟩
      clear c0 c1 c2 c3 c4 c5 c6 m0 m1 m2 m3 m4 m5 m6
      have BE2 := Lib.hid (Below.link BE1.out hb)
      have FL2 := Lib.hid (FL1.out.below hb (Nat.le_trans hB BE1.out.size))
      have BF2 := Lib.hid (BF1.out.below hb (by have := BF1.out.lt; omega))
      have BM2 := Lib.hid (Below.keep hb (by have := lt_of_block BM1.out; omega) BM1.out)
      have ltf2 := BF2.out.lt
      have ltm2 := lt_of_block BM2.out
      clear hb
      obtain ⟨c0, c1, c2, c3, c4, c5, c6⟩ := BF2.out.cells
      have m0 : w2.cell? ⟨w.heap.size + 1, 0, none⟩ = some (.int .i64 fl) := cells_of BM2.out 0
      have m1 : w2.cell? ⟨w.heap.size + 1, 1, none⟩ = some (.int .i64 nm) := cells_of BM2.out 1
      have m2 : w2.cell? ⟨w.heap.size + 1, 2, none⟩ = some (.int .i64 ds) := cells_of BM2.out 2
      have m3 : w2.cell? ⟨w.heap.size + 1, 3, none⟩ = some (.int .i64 ms) := cells_of BM2.out 3
      have m4 : w2.cell? ⟨w.heap.size + 1, 4, none⟩ = some (.int .i64 ml) := cells_of BM2.out 4
      have m5 : w2.cell? ⟨w.heap.size + 1, 5, none⟩ = some (.string code) := cells_of BM2.out 5
      have m6 : w2.cell? ⟨w.heap.size + 1, 6, none⟩ = some (.slice A hs.length c) := cells_of BM2.out 6
      go_wp2_with fail
      refine (HM _).out.mono ?_
      rintro e w3 ⟨v3, rfl, own, hb⟩
      obtain ⟨a, c', rfl⟩ := own_form own
      generalize xs.length = nx at *
      clear c0 c1 c2 c3 c4 c5 c6 m0 m1 m2 m3 m4 m5 m6
      have BE3 := Lib.hid (Below.link BE2.out hb)
      have FL3 := Lib.hid (FL2.out.below hb (Nat.le_trans hB BE2.out.size))
      have BF3 := Lib.hid (BF2.out.below hb (by have := BF2.out.lt; omega))
      have BM3 := Lib.hid (Below.keep hb (by have := lt_of_block BM2.out; omega) BM2.out)
      have ltf3 := BF3.out.lt
      have ltm3 := lt_of_block BM3.out
      clear hb own
      obtain ⟨c0, c1, c2, c3, c4, c5, c6⟩ := BF3.out.cells
      have m0 : w3.cell? ⟨w.heap.size + 1, 0, none⟩ = some (.int .i64 fl) := cells_of BM3.out 0
      have m1 : w3.cell? ⟨w.heap.size + 1, 1, none⟩ = some (.int .i64 nm) := cells_of BM3.out 1
      have m2 : w3.cell? ⟨w.heap.size + 1, 2, none⟩ = some (.int .i64 ds) := cells_of BM3.out 2
      have m3 : w3.cell? ⟨w.heap.size + 1, 3, none⟩ = some (.int .i64 ms) := cells_of BM3.out 3
      have m4 : w3.cell? ⟨w.heap.size + 1, 4, none⟩ = some (.int .i64 ml) := cells_of BM3.out 4
      have m5 : w3.cell? ⟨w.heap.size + 1, 5, none⟩ = some (.string code) := cells_of BM3.out 5
      have m6 : w3.cell? ⟨w.heap.size + 1, 6, none⟩ = some (.slice A hs.length c) := cells_of BM3.out 6
      have BE4 := Lib.hid (BE3.out.alloc (by omega) (.cells #[.slice a nx c', .int .i64 d, .string (mkB rn), .bool false] 100))
      go_wp2
      all_goals
        go_ret
        refine ⟨ret_i ?_, BE4.out⟩
        rw [HE1.out, HV.out]
        simp_all
    · subst hz
      go_enter Try.func45, Try.ntmps45
      go_wp2_with fail
      refine (HTN.out _ _ FL.out (by simp; omega)).mono ?_
      rintro e w1 ⟨rfl, hb⟩
      have BE1 := Lib.hid (Below.link BE.out hb)
      have FL1 := Lib.hid (FL.out.below hb (Nat.le_trans hB BE.out.size))
      have BF1 := Lib.hid (BF.out.below hb (by have := BF.out.lt; omega))
      have BM1 := Lib.hid (Below.keep hb (by have := lt_of_block BM.out; omega) BM.out)
      have ltf1 := BF1.out.lt
      have ltm1 := lt_of_block BM1.out
      clear hb
      obtain ⟨c0, c1, c2, c3, c4, c5, c6⟩ := BF1.out.cells
      have m0 : w1.cell? ⟨w.heap.size + 1, 0, none⟩ = some (.int .i64 0) := cells_of BM1.out 0
      have m1 : w1.cell? ⟨w.heap.size + 1, 1, none⟩ = some (.int .i64 nm) := cells_of BM1.out 1
      have m2 : w1.cell? ⟨w.heap.size + 1, 2, none⟩ = some (.int .i64 ds) := cells_of BM1.out 2
      have m3 : w1.cell? ⟨w.heap.size + 1, 3, none⟩ = some (.int .i64 ms) := cells_of BM1.out 3
      have m4 : w1.cell? ⟨w.heap.size + 1, 4, none⟩ = some (.int .i64 ml) := cells_of BM1.out 4
      have m5 : w1.cell? ⟨w.heap.size + 1, 5, none⟩ = some (.string code) := cells_of BM1.out 5
      have m6 : w1.cell? ⟨w.heap.size + 1, 6, none⟩ = some (.slice A hs.length c) := cells_of BM1.out 6
      go_wp2_with fail
      refine (HTD.out _ _ FL1.out (by omega)).mono ?_
      rintro e w2 ⟨rfl, hb⟩
      clear c0 c1 c2 c3 c4 c5 c6 m0 m1 m2 m3 m4 m5 m6
      have BE2 := Lib.hid (Below.link BE1.out hb)
      have FL2 := Lib.hid (FL1.out.below hb (Nat.le_trans hB BE1.out.size))
      have BF2 := Lib.hid (BF1.out.below hb (by have := BF1.out.lt; omega))
      have BM2 := Lib.hid (Below.keep hb (by have := lt_of_block BM1.out; omega) BM1.out)
      have ltf2 := BF2.out.lt
      have ltm2 := lt_of_block BM2.out
      clear hb
      obtain ⟨c0, c1, c2, c3, c4, c5, c6⟩ := BF2.out.cells
      have m0 : w2.cell? ⟨w.heap.size + 1, 0, none⟩ = some (.int .i64 0) := cells_of BM2.out 0
      have m1 : w2.cell? ⟨w.heap.size + 1, 1, none⟩ = some (.int .i64 nm) := cells_of BM2.out 1
      have m2 : w2.cell? ⟨w.heap.size + 1, 2, none⟩ = some (.int .i64 ds) := cells_of BM2.out 2
      have m3 : w2.cell? ⟨w.heap.size + 1, 3, none⟩ = some (.int .i64 ms) := cells_of BM2.out 3
      have m4 : w2.cell? ⟨w.heap.size + 1, 4, none⟩ = some (.int .i64 ml) := cells_of BM2.out 4
      have m5 : w2.cell? ⟨w.heap.size + 1, 5, none⟩ = some (.string code) := cells_of BM2.out 5
      have m6 : w2.cell? ⟨w.heap.size + 1, 6, none⟩ = some (.slice A hs.length c) := cells_of BM2.out 6
      go_wp2_with fail
      refine (HM _).out.mono ?_
      rintro e w3 ⟨v3, rfl, own, hb⟩
      obtain ⟨a, c', rfl⟩ := own_form own
      generalize xs.length = nx at *
      clear c0 c1 c2 c3 c4 c5 c6 m0 m1 m2 m3 m4 m5 m6
      have BE3 := Lib.hid (Below.link BE2.out hb)
      have FL3 := Lib.hid (FL2.out.below hb (Nat.le_trans hB BE2.out.size))
      have BF3 := Lib.hid (BF2.out.below hb (by have := BF2.out.lt; omega))
      have BM3 := Lib.hid (Below.keep hb (by have := lt_of_block BM2.out; omega) BM2.out)
      have ltf3 := BF3.out.lt
      have ltm3 := lt_of_block BM3.out
      clear hb own
      obtain ⟨c0, c1, c2, c3, c4, c5, c6⟩ := BF3.out.cells
      have m0 : w3.cell? ⟨w.heap.size + 1, 0, none⟩ = some (.int .i64 0) := cells_of BM3.out 0
      have m1 : w3.cell? ⟨w.heap.size + 1, 1, none⟩ = some (.int .i64 nm) := cells_of BM3.out 1
      have m2 : w3.cell? ⟨w.heap.size + 1, 2, none⟩ = some (.int .i64 ds) := cells_of BM3.out 2
      have m3 : w3.cell? ⟨w.heap.size + 1, 3, none⟩ = some (.int .i64 ms) := cells_of BM3.out 3
      have m4 : w3.cell? ⟨w.heap.size + 1, 4, none⟩ = some (.int .i64 ml) := cells_of BM3.out 4
      have m5 : w3.cell? ⟨w.heap.size + 1, 5, none⟩ = some (.string code) := cells_of BM3.out 5
      have m6 : w3.cell? ⟨w.heap.size + 1, 6, none⟩ = some (.slice A hs.length c) := cells_of BM3.out 6
      have BE4 := Lib.hid (BE3.out.alloc (by omega) (.cells #[.slice a nx c', .int .i64 d, .string (mkB rn), .bool true] 100))
      go_wp2
      all_goals
        go_ret
        refine ⟨ret_i ?_, BE4.out⟩
        rw [HE1.out, HV.out]
        simp_all
    · rw [decide_eq_false hz] at f1
      go_enter Try.func45, Try.ntmps45
      go_wp2_with fail
      refine (HTN.out _ _ FL.out (by simp; omega)).mono ?_
      rintro e w1 ⟨rfl, hb⟩
      have BE1 := Lib.hid (Below.link BE.out hb)
      have FL1 := Lib.hid (FL.out.below hb (Nat.le_trans hB BE.out.size))
      have BF1 := Lib.hid (BF.out.below hb (by have := BF.out.lt; omega))
      have BM1 := Lib.hid (Below.keep hb (by have := lt_of_block BM.out; omega) BM.out)
      have ltf1 := BF1.out.lt
      have ltm1 := lt_of_block BM1.out
      clear hb
      obtain ⟨c0, c1, c2, c3, c4, c5, c6⟩ := BF1.out.cells
      have m0 : w1.cell? ⟨w.heap.size + 1, 0, none⟩ = some (.int .i64 fl) := cells_of BM1.out 0
      have m1 : w1.cell? ⟨w.heap.size + 1, 1, none⟩ = some (.int .i64 nm) := cells_of BM1.out 1
      have m2 : w1.cell? ⟨w.heap.size + 1, 2, none⟩ = some (.int .i64 ds) := cells_of BM1.out 2
      have m3 : w1.cell? ⟨w.heap.size + 1, 3, none⟩ = some (.int .i64 ms) := cells_of BM1.out 3
      have m4 : w1.cell? ⟨w.heap.size + 1, 4, none⟩ = some (.int .i64 ml) := cells_of BM1.out 4
      have m5 : w1.cell? ⟨w.heap.size + 1, 5, none⟩ = some (.string code) := cells_of BM1.out 5
      have m6 : w1.cell? ⟨w.heap.size + 1, 6, none⟩ = some (.slice A hs.length c) := cells_of BM1.out 6
      go_wp2_with fail
      refine (HTD.out _ _ FL1.out (by omega)).mono ?_
      rintro e w2 ⟨rfl, hb⟩
      clear c0 c1 c2 c3 c4 c5 c6 m0 m1 m2 m3 m4 m5 m6
      have BE2 := Lib.hid (Below.link BE1.out hb)
      have FL2 := Lib.hid (FL1.out.below hb (Nat.le_trans hB BE1.out.size))
      have BF2 := Lib.hid (BF1.out.below hb (by have := BF1.out.lt; omega))
      have BM2 := Lib.hid (Below.keep hb (by have := lt_of_block BM1.out; omega) BM1.out)
      have ltf2 := BF2.out.lt
      have ltm2 := lt_of_block BM2.out
      clear hb
      obtain ⟨c0, c1, c2, c3, c4, c5, c6⟩ := BF2.out.cells
      have m0 : w2.cell? ⟨w.heap.size + 1, 0, none⟩ = some (.int .i64 fl) := cells_of BM2.out 0
      have m1 : w2.cell? ⟨w.heap.size + 1, 1, none⟩ = some (.int .i64 nm) := cells_of BM2.out 1
      have m2 : w2.cell? ⟨w.heap.size + 1, 2, none⟩ = some (.int .i64 ds) := cells_of BM2.out 2
      have m3 : w2.cell? ⟨w.heap.size + 1, 3, none⟩ = some (.int .i64 ms) := cells_of BM2.out 3
      have m4 : w2.cell? ⟨w.heap.size + 1, 4, none⟩ = some (.int .i64 ml) := cells_of BM2.out 4
      have m5 : w2.cell? ⟨w.heap.size + 1, 5, none⟩ = some (.string code) := cells_of BM2.out 5
      have m6 : w2.cell? ⟨w.heap.size + 1, 6, none⟩ = some (.slice A hs.length c) := cells_of BM2.out 6
      go_wp2_with fail
      refine (HM _).out.mono ?_
      rintro e w3 ⟨v3, rfl, own, hb⟩
      obtain ⟨a, c', rfl⟩ := own_form own
      generalize xs.length = nx at *
      clear c0 c1 c2 c3 c4 c5 c6 m0 m1 m2 m3 m4 m5 m6
      have BE3 := Lib.hid (Below.link BE2.out hb)
      have FL3 := Lib.hid (FL2.out.below hb (Nat.le_trans hB BE2.out.size))
      have BF3 := Lib.hid (BF2.out.below hb (by have := BF2.out.lt; omega))
      have BM3 := Lib.hid (Below.keep hb (by have := lt_of_block BM2.out; omega) BM2.out)
      have ltf3 := BF3.out.lt
      have ltm3 := lt_of_block BM3.out
      clear hb own
      obtain ⟨c0, c1, c2, c3, c4, c5, c6⟩ := BF3.out.cells
      have m0 : w3.cell? ⟨w.heap.size + 1, 0, none⟩ = some (.int .i64 fl) := cells_of BM3.out 0
      have m1 : w3.cell? ⟨w.heap.size + 1, 1, none⟩ = some (.int .i64 nm) := cells_of BM3.out 1
      have m2 : w3.cell? ⟨w.heap.size + 1, 2, none⟩ = some (.int .i64 ds) := cells_of BM3.out 2
      have m3 : w3.cell? ⟨w.heap.size + 1, 3, none⟩ = some (.int .i64 ms) := cells_of BM3.out 3
      have m4 : w3.cell? ⟨w.heap.size + 1, 4, none⟩ = some (.int .i64 ml) := cells_of BM3.out 4
      have m5 : w3.cell? ⟨w.heap.size + 1, 5, none⟩ = some (.string code) := cells_of BM3.out 5
      have m6 : w3.cell? ⟨w.heap.size + 1, 6, none⟩ = some (.slice A hs.length c) := cells_of BM3.out 6
      have BE4 := Lib.hid (BE3.out.alloc (by omega) (.cells #[.slice a nx c', .int .i64 d, .string (mkB rn), .bool true] 100))
      go_wp2
      all_goals
        go_ret
        refine ⟨ret_i ?_, BE4.out⟩
        rw [HE1.out, HV.out]
        simp_all
  · have hne1 : (sn.toList == [60, 105, 110, 105, 116, 62]) = false := by
      have := str_beq sn initN
      rw [decide_eq_false h1, show initN.toList = [60, 105, 110, 105, 116, 62] from toList_data initN] at this
      exact this
    by_cases h2 : sn = clinitN
    · have HE1 := Lib.hid (show R = if fl = 1 ∧ sd = voidD then 0 else 10 by rw [HE.out, if_neg h1, if_pos h2])
      subst h2
      unfold clinitN at HTN
      clear HE h1 hne1 HM
      by_cases hz : fl = 1
      · by_cases hd : sd = voidD
        · have HR := Lib.hid (show R = 0 by rw [HE1.out, if_pos ⟨hz, hd⟩])
          subst hz hd
          unfold voidD at HTD
          clear HE1
          go_enter Try.func45, Try.ntmps45
          go_wp2_with fail
          refine (HTN.out _ _ FL.out (by simp; omega)).mono ?_
          rintro e w1 ⟨rfl, hb⟩
          have BE1 := Lib.hid (Below.link BE.out hb)
          have FL1 := Lib.hid (FL.out.below hb (Nat.le_trans hB BE.out.size))
          have BF1 := Lib.hid (BF.out.below hb (by have := BF.out.lt; omega))
          have BM1 := Lib.hid (Below.keep hb (by have := lt_of_block BM.out; omega) BM.out)
          have ltf1 := BF1.out.lt
          have ltm1 := lt_of_block BM1.out
          clear hb
          obtain ⟨c0, c1, c2, c3, c4, c5, c6⟩ := BF1.out.cells
          have m0 : w1.cell? ⟨w.heap.size + 1, 0, none⟩ = some (.int .i64 1) := cells_of BM1.out 0
          have m1 : w1.cell? ⟨w.heap.size + 1, 1, none⟩ = some (.int .i64 nm) := cells_of BM1.out 1
          have m2 : w1.cell? ⟨w.heap.size + 1, 2, none⟩ = some (.int .i64 ds) := cells_of BM1.out 2
          have m3 : w1.cell? ⟨w.heap.size + 1, 3, none⟩ = some (.int .i64 ms) := cells_of BM1.out 3
          have m4 : w1.cell? ⟨w.heap.size + 1, 4, none⟩ = some (.int .i64 ml) := cells_of BM1.out 4
          have m5 : w1.cell? ⟨w.heap.size + 1, 5, none⟩ = some (.string code) := cells_of BM1.out 5
          have m6 : w1.cell? ⟨w.heap.size + 1, 6, none⟩ = some (.slice A hs.length c) := cells_of BM1.out 6
          go_wp2_with fail
          refine (HTD.out _ _ FL1.out (by omega)).mono ?_
          rintro e w2 ⟨rfl, hb⟩
          clear c0 c1 c2 c3 c4 c5 c6 m0 m1 m2 m3 m4 m5 m6
          have BE2 := Lib.hid (Below.link BE1.out hb)
          have FL2 := Lib.hid (FL1.out.below hb (Nat.le_trans hB BE1.out.size))
          have BF2 := Lib.hid (BF1.out.below hb (by have := BF1.out.lt; omega))
          have BM2 := Lib.hid (Below.keep hb (by have := lt_of_block BM1.out; omega) BM1.out)
          have ltf2 := BF2.out.lt
          have ltm2 := lt_of_block BM2.out
          clear hb
          obtain ⟨c0, c1, c2, c3, c4, c5, c6⟩ := BF2.out.cells
          have m0 : w2.cell? ⟨w.heap.size + 1, 0, none⟩ = some (.int .i64 1) := cells_of BM2.out 0
          have m1 : w2.cell? ⟨w.heap.size + 1, 1, none⟩ = some (.int .i64 nm) := cells_of BM2.out 1
          have m2 : w2.cell? ⟨w.heap.size + 1, 2, none⟩ = some (.int .i64 ds) := cells_of BM2.out 2
          have m3 : w2.cell? ⟨w.heap.size + 1, 3, none⟩ = some (.int .i64 ms) := cells_of BM2.out 3
          have m4 : w2.cell? ⟨w.heap.size + 1, 4, none⟩ = some (.int .i64 ml) := cells_of BM2.out 4
          have m5 : w2.cell? ⟨w.heap.size + 1, 5, none⟩ = some (.string code) := cells_of BM2.out 5
          have m6 : w2.cell? ⟨w.heap.size + 1, 6, none⟩ = some (.slice A hs.length c) := cells_of BM2.out 6
          go_wp2
          go_ret
          exact ⟨ret_i HR.out.symm, BE2.out⟩
        · have HR := Lib.hid (show R = 10 by rw [HE1.out, if_neg (fun h => hd h.2)])
          have hne : (sd.toList == [40, 41, 86]) = false := by
            have := str_beq sd voidD
            rw [decide_eq_false hd, show voidD.toList = [40, 41, 86] from toList_data voidD] at this
            exact this
          subst hz
          clear HE1 hd
          go_enter Try.func45, Try.ntmps45
          go_wp2_with fail
          refine (HTN.out _ _ FL.out (by simp; omega)).mono ?_
          rintro e w1 ⟨rfl, hb⟩
          have BE1 := Lib.hid (Below.link BE.out hb)
          have FL1 := Lib.hid (FL.out.below hb (Nat.le_trans hB BE.out.size))
          have BF1 := Lib.hid (BF.out.below hb (by have := BF.out.lt; omega))
          have BM1 := Lib.hid (Below.keep hb (by have := lt_of_block BM.out; omega) BM.out)
          have ltf1 := BF1.out.lt
          have ltm1 := lt_of_block BM1.out
          clear hb
          obtain ⟨c0, c1, c2, c3, c4, c5, c6⟩ := BF1.out.cells
          have m0 : w1.cell? ⟨w.heap.size + 1, 0, none⟩ = some (.int .i64 1) := cells_of BM1.out 0
          have m1 : w1.cell? ⟨w.heap.size + 1, 1, none⟩ = some (.int .i64 nm) := cells_of BM1.out 1
          have m2 : w1.cell? ⟨w.heap.size + 1, 2, none⟩ = some (.int .i64 ds) := cells_of BM1.out 2
          have m3 : w1.cell? ⟨w.heap.size + 1, 3, none⟩ = some (.int .i64 ms) := cells_of BM1.out 3
          have m4 : w1.cell? ⟨w.heap.size + 1, 4, none⟩ = some (.int .i64 ml) := cells_of BM1.out 4
          have m5 : w1.cell? ⟨w.heap.size + 1, 5, none⟩ = some (.string code) := cells_of BM1.out 5
          have m6 : w1.cell? ⟨w.heap.size + 1, 6, none⟩ = some (.slice A hs.length c) := cells_of BM1.out 6
          go_wp2_with fail
          refine (HTD.out _ _ FL1.out (by omega)).mono ?_
          rintro e w2 ⟨rfl, hb⟩
          clear c0 c1 c2 c3 c4 c5 c6 m0 m1 m2 m3 m4 m5 m6
          have BE2 := Lib.hid (Below.link BE1.out hb)
          have FL2 := Lib.hid (FL1.out.below hb (Nat.le_trans hB BE1.out.size))
          have BF2 := Lib.hid (BF1.out.below hb (by have := BF1.out.lt; omega))
          have BM2 := Lib.hid (Below.keep hb (by have := lt_of_block BM1.out; omega) BM1.out)
          have ltf2 := BF2.out.lt
          have ltm2 := lt_of_block BM2.out
          clear hb
          obtain ⟨c0, c1, c2, c3, c4, c5, c6⟩ := BF2.out.cells
          have m0 : w2.cell? ⟨w.heap.size + 1, 0, none⟩ = some (.int .i64 1) := cells_of BM2.out 0
          have m1 : w2.cell? ⟨w.heap.size + 1, 1, none⟩ = some (.int .i64 nm) := cells_of BM2.out 1
          have m2 : w2.cell? ⟨w.heap.size + 1, 2, none⟩ = some (.int .i64 ds) := cells_of BM2.out 2
          have m3 : w2.cell? ⟨w.heap.size + 1, 3, none⟩ = some (.int .i64 ms) := cells_of BM2.out 3
          have m4 : w2.cell? ⟨w.heap.size + 1, 4, none⟩ = some (.int .i64 ml) := cells_of BM2.out 4
          have m5 : w2.cell? ⟨w.heap.size + 1, 5, none⟩ = some (.string code) := cells_of BM2.out 5
          have m6 : w2.cell? ⟨w.heap.size + 1, 6, none⟩ = some (.slice A hs.length c) := cells_of BM2.out 6
          go_wp2
          go_ret
          exact ⟨ret_i HR.out.symm, BE2.out⟩
      · have HR := Lib.hid (show R = 10 by rw [HE1.out, if_neg (fun h => hz h.1)])
        have hz' : (fl == 1) = false := by simpa using hz
        clear HE1 hz
        go_enter Try.func45, Try.ntmps45
        go_wp2_with fail
        refine (HTN.out _ _ FL.out (by simp; omega)).mono ?_
        rintro e w1 ⟨rfl, hb⟩
        have BE1 := Lib.hid (Below.link BE.out hb)
        have FL1 := Lib.hid (FL.out.below hb (Nat.le_trans hB BE.out.size))
        have BF1 := Lib.hid (BF.out.below hb (by have := BF.out.lt; omega))
        have BM1 := Lib.hid (Below.keep hb (by have := lt_of_block BM.out; omega) BM.out)
        have ltf1 := BF1.out.lt
        have ltm1 := lt_of_block BM1.out
        clear hb
        obtain ⟨c0, c1, c2, c3, c4, c5, c6⟩ := BF1.out.cells
        have m0 : w1.cell? ⟨w.heap.size + 1, 0, none⟩ = some (.int .i64 fl) := cells_of BM1.out 0
        have m1 : w1.cell? ⟨w.heap.size + 1, 1, none⟩ = some (.int .i64 nm) := cells_of BM1.out 1
        have m2 : w1.cell? ⟨w.heap.size + 1, 2, none⟩ = some (.int .i64 ds) := cells_of BM1.out 2
        have m3 : w1.cell? ⟨w.heap.size + 1, 3, none⟩ = some (.int .i64 ms) := cells_of BM1.out 3
        have m4 : w1.cell? ⟨w.heap.size + 1, 4, none⟩ = some (.int .i64 ml) := cells_of BM1.out 4
        have m5 : w1.cell? ⟨w.heap.size + 1, 5, none⟩ = some (.string code) := cells_of BM1.out 5
        have m6 : w1.cell? ⟨w.heap.size + 1, 6, none⟩ = some (.slice A hs.length c) := cells_of BM1.out 6
        go_wp2
        go_ret
        exact ⟨ret_i HR.out.symm, BE1.out⟩
    · have HR := Lib.hid (show R = 0 by rw [HE.out, if_neg h1, if_neg h2])
      have hne2 : (sn.toList == [60, 99, 108, 105, 110, 105, 116, 62]) = false := by
        have := str_beq sn clinitN
        rw [decide_eq_false h2, show clinitN.toList = [60, 99, 108, 105, 110, 105, 116, 62] from toList_data clinitN] at this
        exact this
      clear HE h1 h2 HM
      go_enter Try.func45, Try.ntmps45
      go_wp2_with fail
      refine (HTN.out _ _ FL.out (by simp; omega)).mono ?_
      rintro e w1 ⟨rfl, hb⟩
      have BE1 := Lib.hid (Below.link BE.out hb)
      have FL1 := Lib.hid (FL.out.below hb (Nat.le_trans hB BE.out.size))
      have BF1 := Lib.hid (BF.out.below hb (by have := BF.out.lt; omega))
      have BM1 := Lib.hid (Below.keep hb (by have := lt_of_block BM.out; omega) BM.out)
      have ltf1 := BF1.out.lt
      have ltm1 := lt_of_block BM1.out
      clear hb
      obtain ⟨c0, c1, c2, c3, c4, c5, c6⟩ := BF1.out.cells
      have m0 : w1.cell? ⟨w.heap.size + 1, 0, none⟩ = some (.int .i64 fl) := cells_of BM1.out 0
      have m1 : w1.cell? ⟨w.heap.size + 1, 1, none⟩ = some (.int .i64 nm) := cells_of BM1.out 1
      have m2 : w1.cell? ⟨w.heap.size + 1, 2, none⟩ = some (.int .i64 ds) := cells_of BM1.out 2
      have m3 : w1.cell? ⟨w.heap.size + 1, 3, none⟩ = some (.int .i64 ms) := cells_of BM1.out 3
      have m4 : w1.cell? ⟨w.heap.size + 1, 4, none⟩ = some (.int .i64 ml) := cells_of BM1.out 4
      have m5 : w1.cell? ⟨w.heap.size + 1, 5, none⟩ = some (.string code) := cells_of BM1.out 5
      have m6 : w1.cell? ⟨w.heap.size + 1, 6, none⟩ = some (.slice A hs.length c) := cells_of BM1.out 6
      go_wp2
      go_ret
      exact ⟨ret_i HR.out.symm, BE1.out⟩
end Go.Proofs.Ytcgloepfnnfioaa
