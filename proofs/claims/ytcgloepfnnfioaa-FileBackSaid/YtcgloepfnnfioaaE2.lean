/-
  WALKS of the error of a constant, and of all constants.
-/
import Derived.Test.YtcgloepfnnfioaaE1
set_option linter.unusedVariables false
set_option linter.unusedSimpArgs false
namespace Go.Proofs.Ytcgloepfnnfioaa
open Go.RowKit

def constV (c : Cn) : Value := .agg #[.int .i64 c.tag, .string c.text, .int .i64 c.n, .int .i64 c.a, .int .i64 c.b, .int .i64 c.c]
/-- A tag that there is, and no text and no number beside those of that tag. -/
def rightTagB (c : Cn) : Bool := (decide (c.text.size = 0) || decide (c.tag = 1)) && (decide (c.n = 0) || decide (c.tag = 2)) && decide (1 ≤ c.tag) && decide (c.tag ≤ 7)
set_option maxRecDepth 1000000 in
set_option maxHeartbeats 1600000 in
theorem rightTag_any (c : Cn) (w : World) :
    Calls Try.prog 72 #[constV c] w fun e w' => e = .returned (.bool (rightTagB c)) ∧ Below w.heap.size w w' := by
  obtain ⟨tag, text, n, a, b, d⟩ := c
  unfold constV rightTagB
  simp only
  have HBE := Lib.hid ((Below.refl w.heap.size w).alloc (Nat.le_refl _) (.cells #[.int .i64 tag, .string text, .int .i64 n, .int .i64 a, .int .i64 b, .int .i64 d] 47))
  have hx : (text.size = 0 ∧ text.toList = [] ∧ text.toList.isEmpty = true) ∨ (0 < text.size ∧ ¬ text.toList = [] ∧ text.toList.isEmpty = false) := by
    by_cases h : text.size = 0
    · exact .inl ⟨h, nil_of0 h, emp_of0 h⟩
    · exact .inr ⟨by omega, ne_ofpos (by omega), emp_ofpos (by omega)⟩
  rcases hx with ⟨hx, e1, e2⟩ | ⟨hx, e1, e2⟩
  all_goals
    obtain ⟨S, hS⟩ : ∃ S, text.size = S := ⟨_, rfl⟩
    rw [hS] at hx ⊢
    clear hS
    by_cases hn : n = 0
    all_goals
      rcases (show tag = 1 ∨ tag = 2 ∨ tag < 1 ∨ 7 < tag ∨ (3 ≤ tag ∧ tag ≤ 7) by omega) with ht | ht | ht | ht | ⟨ht, ht'⟩
      all_goals
        have f1 : (tag == 1) = decide (tag = 1) := rfl
        have f2 : (tag != 1) = !decide (tag = 1) := rfl
        have f3 : (tag == 2) = decide (tag = 2) := rfl
        have f4 : (tag != 2) = !decide (tag = 2) := rfl
        have f5 : (n != 0) = !decide (n = 0) := rfl
        first
          | subst hn
          | rw [decide_eq_false hn] at f5
        first
          | subst ht
          | (rw [decide_eq_false (by omega)] at f1 f2 f3 f4)
        go_enter Try.func72, Try.ntmps72
        go_wp2
        go_ret
        refine ⟨ret_b ?_, HBE.out⟩
        first
          | rfl
          | (simp; omega)
theorem rightTag_at (r : Bool) (c : Cn) (w : World) (h : rightTagB c = r) :
    Calls Try.prog 72 #[constV c] w fun e w' => e = .returned (.bool r) ∧ Below w.heap.size w w' := by
  have := rightTag_any c w
  rwa [h] at this
/-- The tags to which the links of a constant with the tag t lead; 0: no link. -/
def tag1 (t : Int) : Int := if t = 3 ∨ t = 4 ∨ t = 7 then 1 else if t = 5 ∨ t = 6 then 4 else 0
def tag2 (t : Int) : Int := if t = 5 ∨ t = 6 then 1 else 0
set_option maxRecDepth 1000000 in
set_option maxHeartbeats 1600000 in
theorem linkTags_any (t : Int) (w : World) :
    Calls Try.prog 73 #[.int .i64 t] w fun e w' => e = .returned (.agg #[.int .i64 (tag1 t), .int .i64 (tag2 t), .int .i64 (tag2 t)]) ∧ Below w.heap.size w w' := by
  have HBE := Lib.hid ((Below.refl w.heap.size w).alloc (Nat.le_refl _) (.cells #[.int .i64 0, .int .i64 0, .int .i64 0] 88))
  have ht : t = 3 ∨ t = 4 ∨ t = 7 ∨ t = 5 ∨ t = 6 ∨ (t ≠ 3 ∧ t ≠ 4 ∧ t ≠ 7 ∧ t ≠ 5 ∧ t ≠ 6) := by omega
  rcases ht with rfl | rfl | rfl | rfl | rfl | ⟨h3, h4, h7, h5, h6⟩
  all_goals
    try have g3 : (t == 3) = false := by simpa using h3
    try have g4 : (t == 4) = false := by simpa using h4
    try have g7 : (t == 7) = false := by simpa using h7
    try have g5 : (t == 5) = false := by simpa using h5
    try have g6 : (t == 6) = false := by simpa using h6
    go_enter Try.func73, Try.ntmps73
    go_wp2
  · refine bodyPost_ret (v := .agg #[.int .i64 1, .int .i64 0, .int .i64 0]) (by simp [results, Try.results73, go_sem]) rfl ⟨rfl, ?_⟩
    exact (Below.refl _ _).alloc (Nat.le_refl _) _
  · refine bodyPost_ret (v := .agg #[.int .i64 1, .int .i64 0, .int .i64 0]) (by simp [results, Try.results73, go_sem]) rfl ⟨rfl, ?_⟩
    exact (Below.refl _ _).alloc (Nat.le_refl _) _
  · refine bodyPost_ret (v := .agg #[.int .i64 1, .int .i64 0, .int .i64 0]) (by simp [results, Try.results73, go_sem]) rfl ⟨rfl, ?_⟩
    exact (Below.refl _ _).alloc (Nat.le_refl _) _
  · refine bodyPost_ret (v := .agg #[.int .i64 4, .int .i64 1, .int .i64 1]) (by simp [results, Try.results73, go_sem]) rfl ⟨rfl, ?_⟩
    exact (Below.refl _ _).alloc (Nat.le_refl _) _
  · refine bodyPost_ret (v := .agg #[.int .i64 4, .int .i64 1, .int .i64 1]) (by simp [results, Try.results73, go_sem]) rfl ⟨rfl, ?_⟩
    exact (Below.refl _ _).alloc (Nat.le_refl _) _
  · refine bodyPost_ret (v := .agg #[.int .i64 0, .int .i64 0, .int .i64 0]) (by simp [results, Try.results73, go_sem]) rfl ⟨?_, ?_⟩
    · rw [show tag1 t = 0 by unfold tag1; rw [if_neg (by omega), if_neg (by omega)], show tag2 t = 0 by unfold tag2; rw [if_neg (by omega)]]
    · exact (Below.refl _ _).alloc (Nat.le_refl _) _
/-- The error of the texts that a constant holds or leads to. -/
def textE (p : List Cn) (c : Cn) : Int :=
  if c.tag = 1 then runesE c.text else if c.tag = 4 then nameE (textP p c.a) else if c.tag = 7 then typeE (textP p c.a)
  else if c.tag = 5 then pairE p c.b c.c typeE else if c.tag = 6 then pairE p c.b c.c sigE else 0
set_option maxRecDepth 1000000 in
set_option maxHeartbeats 1600000 in
theorem textErr_any {B : Nat} (f : Fl) (v : Value) (w : World) (hf : FileAt B w v f) (hB : B ≤ w.heap.size) (ht : Texts f.pool) (c : Cn) (hc : c.text.size ≤ 1000000000000000) :
    Calls Try.prog 75 #[v, constV c] w fun e w' => e = .returned (.int .i64 (textE f.pool c)) ∧ Below w.heap.size w w' := by
  obtain ⟨tag, text, n, a, b, d⟩ := c
  unfold constV
  simp only at hc ⊢
  have HT := Lib.hid (fun V W hW hWB j => textOf_any (B := B) f V W hW hWB j)
  have HR := fun W => Lib.hid (runesErr_any text W hc)
  have HN := fun W => Lib.hid (nameErr_any (textP f.pool a) W)
  have HG := fun W => Lib.hid (typeErr_any (textP f.pool a) W (textP_le ht a))
  have HP5 := Lib.hid (fun V W hW hWB => pairErr_any (B := B) f V W hW hWB ht b d 80 typeE (.inl ⟨rfl, rfl⟩))
  have HP6 := Lib.hid (fun V W hW hWB => pairErr_any (B := B) f V W hW hWB ht b d 81 sigE (.inr ⟨rfl, rfl⟩))
  obtain ⟨Ap, cp, Ai, ci, Af, cf, Am, cm, rfl, hi⟩ := id hf
  have HBE := Lib.hid (((Below.refl w.heap.size w).alloc (Nat.le_refl _) (.cells #[.slice Ap f.pool.length cp, .int .i64 f.fl, .int .i64 f.this, .int .i64 f.super, .slice Ai f.ifs.length ci, .slice Af f.fds.length cf, .slice Am f.mts.length cm] 26)).alloc (by simp) (.cells #[.int .i64 tag, .string text, .int .i64 n, .int .i64 a, .int .i64 b, .int .i64 d] 47))
  have HFL := Lib.hid ((hf.alloc hB (.cells #[.slice Ap f.pool.length cp, .int .i64 f.fl, .int .i64 f.this, .int .i64 f.super, .slice Ai f.ifs.length ci, .slice Af f.fds.length cf, .slice Am f.mts.length cm] 26)).alloc (by simp; omega) (.cells #[.int .i64 tag, .string text, .int .i64 n, .int .i64 a, .int .i64 b, .int .i64 d] 47))
  have HE := Lib.hid (show textE f.pool ⟨tag, text, n, a, b, d⟩ = if tag = 1 then runesE text else if tag = 4 then nameE (textP f.pool a) else if tag = 7 then typeE (textP f.pool a)
    else if tag = 5 then pairE f.pool b d typeE else if tag = 6 then pairE f.pool b d sigE else 0 from rfl)
  generalize textE f.pool ⟨tag, text, n, a, b, d⟩ = R at *
  clear hi hf
  have htg : tag = 1 ∨ tag = 4 ∨ tag = 7 ∨ tag = 5 ∨ tag = 6 ∨ (tag ≠ 1 ∧ tag ≠ 4 ∧ tag ≠ 7 ∧ tag ≠ 5 ∧ tag ≠ 6) := by omega
  rcases htg with rfl | rfl | rfl | rfl | rfl | ⟨h1, h4, h7, h5, h6⟩
  · go_enter Try.func75, Try.ntmps75
    go_wp2_with fail
    refine (HR _).out.mono ?_
    rintro e w1 ⟨rfl, hb⟩
    have HB1 := Lib.hid (Below.link HBE.out hb)
    clear hb
    go_wp2
    go_ret
    exact ⟨ret_i (by rw [HE.out]; simp), HB1.out⟩
  · go_enter Try.func75, Try.ntmps75
    go_wp2_with fail
    refine (HT.out _ _ HFL.out (by simp; omega) a).mono ?_
    rintro e w1 ⟨rfl, hb⟩
    have HB1 := Lib.hid (Below.link HBE.out hb)
    clear hb
    go_wp2_with fail
    refine (HN _).out.mono ?_
    rintro e w2 ⟨rfl, hb⟩
    have HB2 := Lib.hid (Below.link HB1.out hb)
    clear hb
    go_wp2
    go_ret
    exact ⟨ret_i (by rw [HE.out]; simp), HB2.out⟩
  · go_enter Try.func75, Try.ntmps75
    go_wp2_with fail
    refine (HT.out _ _ HFL.out (by simp; omega) a).mono ?_
    rintro e w1 ⟨rfl, hb⟩
    have HB1 := Lib.hid (Below.link HBE.out hb)
    clear hb
    go_wp2_with fail
    refine (HG _).out.mono ?_
    rintro e w2 ⟨rfl, hb⟩
    have HB2 := Lib.hid (Below.link HB1.out hb)
    clear hb
    go_wp2
    go_ret
    exact ⟨ret_i (by rw [HE.out]; simp), HB2.out⟩
  · go_enter Try.func75, Try.ntmps75
    go_wp2_with fail
    refine (HP5.out _ _ HFL.out (by simp; omega)).mono ?_
    rintro e w1 ⟨rfl, hb⟩
    have HB1 := Lib.hid (Below.link HBE.out hb)
    clear hb
    go_wp2
    go_ret
    exact ⟨ret_i (by rw [HE.out]; simp), HB1.out⟩
  · go_enter Try.func75, Try.ntmps75
    go_wp2_with fail
    refine (HP6.out _ _ HFL.out (by simp; omega)).mono ?_
    rintro e w1 ⟨rfl, hb⟩
    have HB1 := Lib.hid (Below.link HBE.out hb)
    clear hb
    go_wp2
    go_ret
    exact ⟨ret_i (by rw [HE.out]; simp), HB1.out⟩
  · have g1 : (tag == 1) = false := by simpa using h1
    have g4 : (tag == 4) = false := by simpa using h4
    have g7 : (tag == 7) = false := by simpa using h7
    have g5 : (tag == 5) = false := by simpa using h5
    have g6 : (tag == 6) = false := by simpa using h6
    go_enter Try.func75, Try.ntmps75
    go_wp2
    go_ret
    exact ⟨ret_i (by rw [HE.out]; simp [h1, h4, h7, h5, h6]), HBE.out⟩
end Go.Proofs.Ytcgloepfnnfioaa
