/-
  WALK of the document's own error of a constant.
-/
import Derived.Test.YtcgloepfnnfioaaR1
set_option linter.unusedVariables false
set_option linter.unusedSimpArgs false
namespace Go.Proofs.Ytcgloepfnnfioaa
open Go.RowKit

def CBox (q : Nat) (t : Int) (text : ByteArray) (n a b d : Int) (w : World) : Prop := w.heap[q]? = some (.cells #[.int .i64 t, .string text, .int .i64 n, .int .i64 a, .int .i64 b, .int .i64 d] 47 (0, 0))
theorem pairE_desc (p : List Cn) (i j : Int) (b : Bool) : pairE p i j (if b then sigE else typeE) = if nameL (L (textP p i)) = true then descE b (textP p j) else 8 := by
  unfold pairE nameE descE
  cases nameL (L (textP p i)) <;> cases b <;> simp
theorem CBox.lt {q : Nat} {t : Int} {text : ByteArray} {n a b d : Int} {w : World} (h : CBox q t text n a b d w) : q < w.heap.size := lt_of_block h
theorem CBox.alloc {q : Nat} {t : Int} {text : ByteArray} {n a b d : Int} {w : World} (h : CBox q t text n a b d w) (o : Obj) : CBox q t text n a b d (w.alloc o) := heap_alloc_lt h
theorem CBox.below {q : Nat} {t : Int} {text : ByteArray} {n a b d : Int} {w w' : World} {B : Nat} (h : CBox q t text n a b d w) (hb : Below B w w') (hB : q < B) : CBox q t text n a b d w' := Below.keep hb hB h
theorem CBox.cells {q : Nat} {t : Int} {text : ByteArray} {n a b d : Int} {w : World} (h : CBox q t text n a b d w) : w.cell? ⟨q, 0, none⟩ = some (.int .i64 t) ∧ w.cell? ⟨q, 1, none⟩ = some (.string text) ∧ w.cell? ⟨q, 2, none⟩ = some (.int .i64 n) ∧ w.cell? ⟨q, 3, none⟩ = some (.int .i64 a) ∧ w.cell? ⟨q, 4, none⟩ = some (.int .i64 b) ∧ w.cell? ⟨q, 5, none⟩ = some (.int .i64 d) :=
  ⟨cells_of h 0, cells_of h 1, cells_of h 2, cells_of h 3, cells_of h 4, cells_of h 5⟩
set_option maxRecDepth 1000000 in
set_option maxHeartbeats 6400000 in
theorem refConst_1 {B : Nat} (f : Fl) (v : Value) (w : World) (hf : FileAt B w v f) (hB : B ≤ w.heap.size) (ht : ∀ i, (textP f.pool i).size ≤ 1000000) (text : ByteArray) (hc : text.size ≤ 1000000) (n a b d : Int) :
    Calls Try.prog 59 #[v, .agg #[.int .i64 1, .string text, .int .i64 n, .int .i64 a, .int .i64 b, .int .i64 d]] w fun e w' => e = .returned (.int .i64 (constE f.pool ⟨1, text, n, a, b, d⟩)) ∧ Below w.heap.size w w' := by
  have HE := Lib.hid (show constE f.pool ⟨1, text, n, a, b, d⟩ = if rightTagB ⟨1, text, n, a, b, d⟩ = true then (if linksB f.pool ⟨1, text, n, a, b, d⟩ = true then textE f.pool ⟨1, text, n, a, b, d⟩ else 7) else 7 from rfl)
  have HTX := Lib.hid ht
  have HT1 := Lib.hid (fun r V W hW hWB i h => refTagged_at (B := B) r f V W hW hWB i 1 h)
  have HT4 := Lib.hid (fun r V W hW hWB i h => refTagged_at (B := B) r f V W hW hWB i 4 h)
  have HX := Lib.hid (fun V W hW hWB i h => reftext_any (B := B) f V W hW hWB i h)
  have HEN := fun W => Lib.hid (refEncode_any text W hc)
  have HRU := fun W => Lib.hid (refRunes_any text W hc)
  generalize constE f.pool ⟨1, text, n, a, b, d⟩ = R at *
  obtain ⟨Ap, cp, Ai, ci, Af, cf, Am, cm, rfl, hi⟩ := id hf
  have FL0 := Lib.hid ((hf.alloc hB (.cells #[.slice Ap f.pool.length cp, .int .i64 f.fl, .int .i64 f.this, .int .i64 f.super, .slice Ai f.ifs.length ci, .slice Af f.fds.length cf, .slice Am f.mts.length cm] 26)).alloc (le_alloc hB _) (.cells #[.int .i64 1, .string text, .int .i64 n, .int .i64 a, .int .i64 b, .int .i64 d] 47))
  have BE0 := Lib.hid (((Below.refl w.heap.size w).alloc (Nat.le_refl _) (.cells #[.slice Ap f.pool.length cp, .int .i64 f.fl, .int .i64 f.this, .int .i64 f.super, .slice Ai f.ifs.length ci, .slice Af f.fds.length cf, .slice Am f.mts.length cm] 26)).alloc (le_alloc (Nat.le_refl _) _) (.cells #[.int .i64 1, .string text, .int .i64 n, .int .i64 a, .int .i64 b, .int .i64 d] 47))
  have BF0 := Lib.hid ((FBox.new Ap cp Ai ci Af cf Am cm f w).alloc (.cells #[.int .i64 1, .string text, .int .i64 n, .int .i64 a, .int .i64 b, .int .i64 d] 47))
  have BM0 := Lib.hid (show CBox (w.heap.size + 1) 1 text n a b d _ from heap_new2 w (.cells #[.slice Ap f.pool.length cp, .int .i64 f.fl, .int .i64 f.this, .int .i64 f.super, .slice Ai f.ifs.length ci, .slice Af f.fds.length cf, .slice Am f.mts.length cm] 26) (.cells #[.int .i64 1, .string text, .int .i64 n, .int .i64 a, .int .i64 b, .int .i64 d] 47))
  clear hi hf ht hc
  rcases (show (n ≠ 0 ∧ (n == 0) = false ∧ (n != 0) = true) ∨ (n = 0) by
    by_cases h : n = 0
    · exact .inr h
    · exact .inl ⟨h, by simpa using h, by simpa using h⟩) with ⟨hn, gn, gn'⟩ | hn
  · have HR := Lib.hid (show R = 7 by rw [HE.out]; simp [rightTagB, linksB, linkB, tag1, tag2, hn])
    clear HE
    go_enter Try.func59, Try.ntmps59
    go_wp2
    go_ret
    exact ⟨ret_i HR.out.symm, BE0.out⟩
  subst hn
  rcases (show (a ≠ 0 ∧ (a == 0) = false ∧ (a != 0) = true) ∨ (a = 0) by
    by_cases h : a = 0
    · exact .inr h
    · exact .inl ⟨h, by simpa using h, by simpa using h⟩) with ⟨ha, ga, ga'⟩ | ha
  · have HR := Lib.hid (show R = 7 by rw [HE.out]; simp [rightTagB, linksB, linkB, tag1, tag2, ha])
    clear HE
    go_enter Try.func59, Try.ntmps59
    go_wp2
    go_ret
    exact ⟨ret_i HR.out.symm, BE0.out⟩
  subst ha
  rcases (show (b ≠ 0 ∧ (b == 0) = false ∧ (b != 0) = true) ∨ (b = 0) by
    by_cases h : b = 0
    · exact .inr h
    · exact .inl ⟨h, by simpa using h, by simpa using h⟩) with ⟨hb, gb, gb'⟩ | hb
  · have HR := Lib.hid (show R = 7 by rw [HE.out]; simp [rightTagB, linksB, linkB, tag1, tag2, hb])
    clear HE
    go_enter Try.func59, Try.ntmps59
    go_wp2
    go_ret
    exact ⟨ret_i HR.out.symm, BE0.out⟩
  subst hb
  rcases (show (d ≠ 0 ∧ (d == 0) = false ∧ (d != 0) = true) ∨ (d = 0) by
    by_cases h : d = 0
    · exact .inr h
    · exact .inl ⟨h, by simpa using h, by simpa using h⟩) with ⟨hd, gd, gd'⟩ | hd
  · have HR := Lib.hid (show R = 7 by rw [HE.out]; simp [rightTagB, linksB, linkB, tag1, tag2, hd])
    clear HE
    go_enter Try.func59, Try.ntmps59
    go_wp2
    go_ret
    exact ⟨ret_i HR.out.symm, BE0.out⟩
  subst hd
  have HR := Lib.hid (show R = runesE text by rw [HE.out]; simp [rightTagB, linksB, linkB, tag1, tag2, textE])
  have HRE := Lib.hid (show runesE text = if encE (L text) = 0 then (if 2000 < (ints (runes (L text))).length then 2 else 0) else encE (L text) by unfold runesE ints; rw [List.length_map])
  clear HE
  generalize encE (L text) = E at *
  by_cases hE : E = 0
  · subst hE
    have HR2 := Lib.hid (show R = if 2000 < (ints (runes (L text))).length then 2 else 0 by rw [HR.out, HRE.out, if_pos rfl])
    generalize ints (runes (L text)) = rs at *
    clear HR HRE
    go_enter Try.func59, Try.ntmps59
    go_wp2_with fail
    refine ((HEN _).out).mono ?_
    rintro e w1 ⟨rfl, hb⟩
    have BE1 := Lib.hid (Below.link BE0.out hb)
    have FL1 := Lib.hid (FL0.out.below hb (Nat.le_trans hB BE0.out.size))
    have BF1 := Lib.hid (BF0.out.below hb BF0.out.lt)
    have BM1 := Lib.hid (BM0.out.below hb BM0.out.lt)
    have ltf1 := BF1.out.lt
    have ltm1 := BM1.out.lt
    clear hb
    obtain ⟨c0, c1, c2, c3, c4, c5, c6⟩ := BF1.out.cells
    obtain ⟨m0, m1, m2, m3, m4, m5⟩ := BM1.out.cells
    go_wp2_with fail
    refine ((HRU _).out).mono ?_
    rintro e w2 ⟨v1, rfl, own, hb⟩
    obtain ⟨A1, c1x, rfl⟩ := own_form own
    clear own
    have BE2 := Lib.hid (Below.link BE1.out hb)
    have FL2 := Lib.hid (FL1.out.below hb (Nat.le_trans hB BE1.out.size))
    have BF2 := Lib.hid (BF1.out.below hb BF1.out.lt)
    have BM2 := Lib.hid (BM1.out.below hb BM1.out.lt)
    have ltf2 := BF2.out.lt
    have ltm2 := BM2.out.lt
    clear hb
    clear c0 c1 c2 c3 c4 c5 c6 m0 m1 m2 m3 m4 m5
    obtain ⟨c0, c1, c2, c3, c4, c5, c6⟩ := BF2.out.cells
    obtain ⟨m0, m1, m2, m3, m4, m5⟩ := BM2.out.cells
    generalize rs.length = len at *
    by_cases h2 : 2000 < len
    · have h2' : (2000 : Int) < len := by omega
      go_wp2
      go_ret
      exact ⟨ret_i (by rw [HR2.out, if_pos h2]), BE2.out⟩
    · have h2' : (len : Int) ≤ 2000 := by omega
      go_wp2
      go_ret
      exact ⟨ret_i (by rw [HR2.out, if_neg h2]), BE2.out⟩
  · have HR2 := Lib.hid (show R = E by rw [HR.out, HRE.out, if_neg hE])
    have gE : (E == 0) = false := by simpa using hE
    have gE' : (E != 0) = true := by simpa using hE
    clear HR HRE
    go_enter Try.func59, Try.ntmps59
    go_wp2_with fail
    refine ((HEN _).out).mono ?_
    rintro e w1 ⟨rfl, hb⟩
    have BE1 := Lib.hid (Below.link BE0.out hb)
    have FL1 := Lib.hid (FL0.out.below hb (Nat.le_trans hB BE0.out.size))
    have BF1 := Lib.hid (BF0.out.below hb BF0.out.lt)
    have BM1 := Lib.hid (BM0.out.below hb BM0.out.lt)
    have ltf1 := BF1.out.lt
    have ltm1 := BM1.out.lt
    clear hb
    obtain ⟨c0, c1, c2, c3, c4, c5, c6⟩ := BF1.out.cells
    obtain ⟨m0, m1, m2, m3, m4, m5⟩ := BM1.out.cells
    go_wp2
    go_ret
    exact ⟨ret_i HR2.out.symm, BE1.out⟩
set_option maxRecDepth 1000000 in
set_option maxHeartbeats 6400000 in
theorem refConst_2 {B : Nat} (f : Fl) (v : Value) (w : World) (hf : FileAt B w v f) (hB : B ≤ w.heap.size) (ht : ∀ i, (textP f.pool i).size ≤ 1000000) (text : ByteArray) (hc : text.size ≤ 1000000) (n a b d : Int) :
    Calls Try.prog 59 #[v, .agg #[.int .i64 2, .string text, .int .i64 n, .int .i64 a, .int .i64 b, .int .i64 d]] w fun e w' => e = .returned (.int .i64 (constE f.pool ⟨2, text, n, a, b, d⟩)) ∧ Below w.heap.size w w' := by
  have HE := Lib.hid (show constE f.pool ⟨2, text, n, a, b, d⟩ = if rightTagB ⟨2, text, n, a, b, d⟩ = true then (if linksB f.pool ⟨2, text, n, a, b, d⟩ = true then textE f.pool ⟨2, text, n, a, b, d⟩ else 7) else 7 from rfl)
  have HTX := Lib.hid ht
  have HT1 := Lib.hid (fun r V W hW hWB i h => refTagged_at (B := B) r f V W hW hWB i 1 h)
  have HT4 := Lib.hid (fun r V W hW hWB i h => refTagged_at (B := B) r f V W hW hWB i 4 h)
  have HX := Lib.hid (fun V W hW hWB i h => reftext_any (B := B) f V W hW hWB i h)
  have HEN := fun W => Lib.hid (refEncode_any text W hc)
  have HRU := fun W => Lib.hid (refRunes_any text W hc)
  generalize constE f.pool ⟨2, text, n, a, b, d⟩ = R at *
  obtain ⟨Ap, cp, Ai, ci, Af, cf, Am, cm, rfl, hi⟩ := id hf
  have FL0 := Lib.hid ((hf.alloc hB (.cells #[.slice Ap f.pool.length cp, .int .i64 f.fl, .int .i64 f.this, .int .i64 f.super, .slice Ai f.ifs.length ci, .slice Af f.fds.length cf, .slice Am f.mts.length cm] 26)).alloc (le_alloc hB _) (.cells #[.int .i64 2, .string text, .int .i64 n, .int .i64 a, .int .i64 b, .int .i64 d] 47))
  have BE0 := Lib.hid (((Below.refl w.heap.size w).alloc (Nat.le_refl _) (.cells #[.slice Ap f.pool.length cp, .int .i64 f.fl, .int .i64 f.this, .int .i64 f.super, .slice Ai f.ifs.length ci, .slice Af f.fds.length cf, .slice Am f.mts.length cm] 26)).alloc (le_alloc (Nat.le_refl _) _) (.cells #[.int .i64 2, .string text, .int .i64 n, .int .i64 a, .int .i64 b, .int .i64 d] 47))
  have BF0 := Lib.hid ((FBox.new Ap cp Ai ci Af cf Am cm f w).alloc (.cells #[.int .i64 2, .string text, .int .i64 n, .int .i64 a, .int .i64 b, .int .i64 d] 47))
  have BM0 := Lib.hid (show CBox (w.heap.size + 1) 2 text n a b d _ from heap_new2 w (.cells #[.slice Ap f.pool.length cp, .int .i64 f.fl, .int .i64 f.this, .int .i64 f.super, .slice Ai f.ifs.length ci, .slice Af f.fds.length cf, .slice Am f.mts.length cm] 26) (.cells #[.int .i64 2, .string text, .int .i64 n, .int .i64 a, .int .i64 b, .int .i64 d] 47))
  clear hi hf ht hc
  rcases (str_nil (s := text)).symm with ⟨hx, e1, e2⟩ | ⟨hx, e1, e2⟩
  · have hx0 : ¬ text.size = 0 := by omega
    have HR := Lib.hid (show R = 7 by rw [HE.out]; simp [rightTagB, linksB, linkB, tag1, tag2, hx0])
    clear HE
    go_enter Try.func59, Try.ntmps59
    go_wp2
    go_ret
    exact ⟨ret_i HR.out.symm, BE0.out⟩
  rcases (show (a ≠ 0 ∧ (a == 0) = false ∧ (a != 0) = true) ∨ (a = 0) by
    by_cases h : a = 0
    · exact .inr h
    · exact .inl ⟨h, by simpa using h, by simpa using h⟩) with ⟨ha, ga, ga'⟩ | ha
  · have HR := Lib.hid (show R = 7 by rw [HE.out]; simp [rightTagB, linksB, linkB, tag1, tag2, hx, ha])
    clear HE
    go_enter Try.func59, Try.ntmps59
    go_wp2
    go_ret
    exact ⟨ret_i HR.out.symm, BE0.out⟩
  subst ha
  rcases (show (b ≠ 0 ∧ (b == 0) = false ∧ (b != 0) = true) ∨ (b = 0) by
    by_cases h : b = 0
    · exact .inr h
    · exact .inl ⟨h, by simpa using h, by simpa using h⟩) with ⟨hb, gb, gb'⟩ | hb
  · have HR := Lib.hid (show R = 7 by rw [HE.out]; simp [rightTagB, linksB, linkB, tag1, tag2, hx, hb])
    clear HE
    go_enter Try.func59, Try.ntmps59
    go_wp2
    go_ret
    exact ⟨ret_i HR.out.symm, BE0.out⟩
  subst hb
  rcases (show (d ≠ 0 ∧ (d == 0) = false ∧ (d != 0) = true) ∨ (d = 0) by
    by_cases h : d = 0
    · exact .inr h
    · exact .inl ⟨h, by simpa using h, by simpa using h⟩) with ⟨hd, gd, gd'⟩ | hd
  · have HR := Lib.hid (show R = 7 by rw [HE.out]; simp [rightTagB, linksB, linkB, tag1, tag2, hx, hd])
    clear HE
    go_enter Try.func59, Try.ntmps59
    go_wp2
    go_ret
    exact ⟨ret_i HR.out.symm, BE0.out⟩
  subst hd
  have HR := Lib.hid (show R = 0 by rw [HE.out]; simp [rightTagB, linksB, linkB, tag1, tag2, textE, hx])
  clear HE
  go_enter Try.func59, Try.ntmps59
  go_wp2
  go_ret
  exact ⟨ret_i HR.out.symm, BE0.out⟩
set_option maxRecDepth 1000000 in
set_option maxHeartbeats 6400000 in
theorem refConst_3 {B : Nat} (f : Fl) (v : Value) (w : World) (hf : FileAt B w v f) (hB : B ≤ w.heap.size) (ht : ∀ i, (textP f.pool i).size ≤ 1000000) (text : ByteArray) (hc : text.size ≤ 1000000) (n a b d : Int) :
    Calls Try.prog 59 #[v, .agg #[.int .i64 3, .string text, .int .i64 n, .int .i64 a, .int .i64 b, .int .i64 d]] w fun e w' => e = .returned (.int .i64 (constE f.pool ⟨3, text, n, a, b, d⟩)) ∧ Below w.heap.size w w' := by
  have HE := Lib.hid (show constE f.pool ⟨3, text, n, a, b, d⟩ = if rightTagB ⟨3, text, n, a, b, d⟩ = true then (if linksB f.pool ⟨3, text, n, a, b, d⟩ = true then textE f.pool ⟨3, text, n, a, b, d⟩ else 7) else 7 from rfl)
  have HTX := Lib.hid ht
  have HT1 := Lib.hid (fun r V W hW hWB i h => refTagged_at (B := B) r f V W hW hWB i 1 h)
  have HT4 := Lib.hid (fun r V W hW hWB i h => refTagged_at (B := B) r f V W hW hWB i 4 h)
  have HX := Lib.hid (fun V W hW hWB i h => reftext_any (B := B) f V W hW hWB i h)
  have HEN := fun W => Lib.hid (refEncode_any text W hc)
  have HRU := fun W => Lib.hid (refRunes_any text W hc)
  generalize constE f.pool ⟨3, text, n, a, b, d⟩ = R at *
  obtain ⟨Ap, cp, Ai, ci, Af, cf, Am, cm, rfl, hi⟩ := id hf
  have FL0 := Lib.hid ((hf.alloc hB (.cells #[.slice Ap f.pool.length cp, .int .i64 f.fl, .int .i64 f.this, .int .i64 f.super, .slice Ai f.ifs.length ci, .slice Af f.fds.length cf, .slice Am f.mts.length cm] 26)).alloc (le_alloc hB _) (.cells #[.int .i64 3, .string text, .int .i64 n, .int .i64 a, .int .i64 b, .int .i64 d] 47))
  have BE0 := Lib.hid (((Below.refl w.heap.size w).alloc (Nat.le_refl _) (.cells #[.slice Ap f.pool.length cp, .int .i64 f.fl, .int .i64 f.this, .int .i64 f.super, .slice Ai f.ifs.length ci, .slice Af f.fds.length cf, .slice Am f.mts.length cm] 26)).alloc (le_alloc (Nat.le_refl _) _) (.cells #[.int .i64 3, .string text, .int .i64 n, .int .i64 a, .int .i64 b, .int .i64 d] 47))
  have BF0 := Lib.hid ((FBox.new Ap cp Ai ci Af cf Am cm f w).alloc (.cells #[.int .i64 3, .string text, .int .i64 n, .int .i64 a, .int .i64 b, .int .i64 d] 47))
  have BM0 := Lib.hid (show CBox (w.heap.size + 1) 3 text n a b d _ from heap_new2 w (.cells #[.slice Ap f.pool.length cp, .int .i64 f.fl, .int .i64 f.this, .int .i64 f.super, .slice Ai f.ifs.length ci, .slice Af f.fds.length cf, .slice Am f.mts.length cm] 26) (.cells #[.int .i64 3, .string text, .int .i64 n, .int .i64 a, .int .i64 b, .int .i64 d] 47))
  clear hi hf ht hc
  rcases (str_nil (s := text)).symm with ⟨hx, e1, e2⟩ | ⟨hx, e1, e2⟩
  · have hx0 : ¬ text.size = 0 := by omega
    have HR := Lib.hid (show R = 7 by rw [HE.out]; simp [rightTagB, linksB, linkB, tag1, tag2, hx0])
    clear HE
    go_enter Try.func59, Try.ntmps59
    go_wp2
    go_ret
    exact ⟨ret_i HR.out.symm, BE0.out⟩
  rcases (show (n ≠ 0 ∧ (n == 0) = false ∧ (n != 0) = true) ∨ (n = 0) by
    by_cases h : n = 0
    · exact .inr h
    · exact .inl ⟨h, by simpa using h, by simpa using h⟩) with ⟨hn, gn, gn'⟩ | hn
  · have HR := Lib.hid (show R = 7 by rw [HE.out]; simp [rightTagB, linksB, linkB, tag1, tag2, hx, hn])
    clear HE
    go_enter Try.func59, Try.ntmps59
    go_wp2
    go_ret
    exact ⟨ret_i HR.out.symm, BE0.out⟩
  subst hn
  rcases (show (b ≠ 0 ∧ (b == 0) = false ∧ (b != 0) = true) ∨ (b = 0) by
    by_cases h : b = 0
    · exact .inr h
    · exact .inl ⟨h, by simpa using h, by simpa using h⟩) with ⟨hb, gb, gb'⟩ | hb
  · have HR := Lib.hid (show R = 7 by rw [HE.out]; simp [rightTagB, linksB, linkB, tag1, tag2, hx, hb])
    clear HE
    go_enter Try.func59, Try.ntmps59
    go_wp2
    go_ret
    exact ⟨ret_i HR.out.symm, BE0.out⟩
  subst hb
  rcases (show (d ≠ 0 ∧ (d == 0) = false ∧ (d != 0) = true) ∨ (d = 0) by
    by_cases h : d = 0
    · exact .inr h
    · exact .inl ⟨h, by simpa using h, by simpa using h⟩) with ⟨hd, gd, gd'⟩ | hd
  · have HR := Lib.hid (show R = 7 by rw [HE.out]; simp [rightTagB, linksB, linkB, tag1, tag2, hx, hd])
    clear HE
    go_enter Try.func59, Try.ntmps59
    go_wp2
    go_ret
    exact ⟨ret_i HR.out.symm, BE0.out⟩
  subst hd
  cases h1 : tagged f.pool a 1 with
  | false =>
    have HR := Lib.hid (show R = 7 by rw [HE.out]; simp [rightTagB, linksB, linkB, tag1, tag2, textE, hx, h1])
    have H1 := Lib.hid h1
    clear HE h1
    go_enter Try.func59, Try.ntmps59
    go_wp2_with fail
    refine (HT1.out false _ _ FL0.out (Nat.le_trans hB BE0.out.size) _ H1.out).mono ?_
    rintro e w1 ⟨rfl, hb⟩
    have BE1 := Lib.hid (Below.link BE0.out hb)
    have FL1 := Lib.hid (FL0.out.below hb (Nat.le_trans hB BE0.out.size))
    have BF1 := Lib.hid (BF0.out.below hb BF0.out.lt)
    have BM1 := Lib.hid (BM0.out.below hb BM0.out.lt)
    have ltf1 := BF1.out.lt
    have ltm1 := BM1.out.lt
    clear hb
    obtain ⟨c0, c1, c2, c3, c4, c5, c6⟩ := BF1.out.cells
    obtain ⟨m0, m1, m2, m3, m4, m5⟩ := BM1.out.cells
    go_wp2
    go_ret
    exact ⟨ret_i HR.out.symm, BE1.out⟩
  | true =>
    have H1 := Lib.hid h1
    have HNM := fun W => Lib.hid (refName_any (textP f.pool a) W (HTX.out _))
    have HFD := fun W => Lib.hid (refField_any (textP f.pool a) W (HTX.out _))
    have HR := Lib.hid (show R = 0 by rw [HE.out]; simp [rightTagB, linksB, linkB, tag1, tag2, textE, hx, h1])
    clear HE h1
    obtain ⟨nb, hnb⟩ : ∃ q, nameL (L (textP f.pool a)) = q := ⟨_, rfl⟩
    rw [hnb] at HNM
    try rw [hnb] at HR
    clear hnb
    cases nb with
    | false =>
      go_enter Try.func59, Try.ntmps59
      go_wp2_with fail
      refine (HT1.out true _ _ FL0.out (Nat.le_trans hB BE0.out.size) _ H1.out).mono ?_
      rintro e w1 ⟨rfl, hb⟩
      have BE1 := Lib.hid (Below.link BE0.out hb)
      have FL1 := Lib.hid (FL0.out.below hb (Nat.le_trans hB BE0.out.size))
      have BF1 := Lib.hid (BF0.out.below hb BF0.out.lt)
      have BM1 := Lib.hid (BM0.out.below hb BM0.out.lt)
      have ltf1 := BF1.out.lt
      have ltm1 := BM1.out.lt
      clear hb
      obtain ⟨c0, c1, c2, c3, c4, c5, c6⟩ := BF1.out.cells
      obtain ⟨m0, m1, m2, m3, m4, m5⟩ := BM1.out.cells
      go_wp2_with fail
      refine (HX.out _ _ FL1.out (Nat.le_trans hB BE1.out.size) _ H1.out).mono ?_
      rintro e w2 ⟨rfl, hb⟩
      have BE2 := Lib.hid (Below.link BE1.out hb)
      have FL2 := Lib.hid (FL1.out.below hb (Nat.le_trans hB BE1.out.size))
      have BF2 := Lib.hid (BF1.out.below hb BF1.out.lt)
      have BM2 := Lib.hid (BM1.out.below hb BM1.out.lt)
      have ltf2 := BF2.out.lt
      have ltm2 := BM2.out.lt
      clear hb
      clear c0 c1 c2 c3 c4 c5 c6 m0 m1 m2 m3 m4 m5
      obtain ⟨c0, c1, c2, c3, c4, c5, c6⟩ := BF2.out.cells
      obtain ⟨m0, m1, m2, m3, m4, m5⟩ := BM2.out.cells
      go_wp2_with fail
      refine ((HNM _).out).mono ?_
      rintro e w3 ⟨rfl, hb⟩
      have BE3 := Lib.hid (Below.link BE2.out hb)
      have FL3 := Lib.hid (FL2.out.below hb (Nat.le_trans hB BE2.out.size))
      have BF3 := Lib.hid (BF2.out.below hb BF2.out.lt)
      have BM3 := Lib.hid (BM2.out.below hb BM2.out.lt)
      have ltf3 := BF3.out.lt
      have ltm3 := BM3.out.lt
      clear hb
      clear c0 c1 c2 c3 c4 c5 c6 m0 m1 m2 m3 m4 m5
      obtain ⟨c0, c1, c2, c3, c4, c5, c6⟩ := BF3.out.cells
      obtain ⟨m0, m1, m2, m3, m4, m5⟩ := BM3.out.cells
      go_wp2
      go_ret
      exact ⟨ret_i HR.out.symm, BE3.out⟩
    | true =>
      go_enter Try.func59, Try.ntmps59
      go_wp2_with fail
      refine (HT1.out true _ _ FL0.out (Nat.le_trans hB BE0.out.size) _ H1.out).mono ?_
      rintro e w1 ⟨rfl, hb⟩
      have BE1 := Lib.hid (Below.link BE0.out hb)
      have FL1 := Lib.hid (FL0.out.below hb (Nat.le_trans hB BE0.out.size))
      have BF1 := Lib.hid (BF0.out.below hb BF0.out.lt)
      have BM1 := Lib.hid (BM0.out.below hb BM0.out.lt)
      have ltf1 := BF1.out.lt
      have ltm1 := BM1.out.lt
      clear hb
      obtain ⟨c0, c1, c2, c3, c4, c5, c6⟩ := BF1.out.cells
      obtain ⟨m0, m1, m2, m3, m4, m5⟩ := BM1.out.cells
      go_wp2_with fail
      refine (HX.out _ _ FL1.out (Nat.le_trans hB BE1.out.size) _ H1.out).mono ?_
      rintro e w2 ⟨rfl, hb⟩
      have BE2 := Lib.hid (Below.link BE1.out hb)
      have FL2 := Lib.hid (FL1.out.below hb (Nat.le_trans hB BE1.out.size))
      have BF2 := Lib.hid (BF1.out.below hb BF1.out.lt)
      have BM2 := Lib.hid (BM1.out.below hb BM1.out.lt)
      have ltf2 := BF2.out.lt
      have ltm2 := BM2.out.lt
      clear hb
      clear c0 c1 c2 c3 c4 c5 c6 m0 m1 m2 m3 m4 m5
      obtain ⟨c0, c1, c2, c3, c4, c5, c6⟩ := BF2.out.cells
      obtain ⟨m0, m1, m2, m3, m4, m5⟩ := BM2.out.cells
      go_wp2_with fail
      refine ((HNM _).out).mono ?_
      rintro e w3 ⟨rfl, hb⟩
      have BE3 := Lib.hid (Below.link BE2.out hb)
      have FL3 := Lib.hid (FL2.out.below hb (Nat.le_trans hB BE2.out.size))
      have BF3 := Lib.hid (BF2.out.below hb BF2.out.lt)
      have BM3 := Lib.hid (BM2.out.below hb BM2.out.lt)
      have ltf3 := BF3.out.lt
      have ltm3 := BM3.out.lt
      clear hb
      clear c0 c1 c2 c3 c4 c5 c6 m0 m1 m2 m3 m4 m5
      obtain ⟨c0, c1, c2, c3, c4, c5, c6⟩ := BF3.out.cells
      obtain ⟨m0, m1, m2, m3, m4, m5⟩ := BM3.out.cells
      go_wp2
      go_ret
      exact ⟨ret_i HR.out.symm, BE3.out⟩
set_option maxRecDepth 1000000 in
set_option maxHeartbeats 6400000 in
theorem refConst_4 {B : Nat} (f : Fl) (v : Value) (w : World) (hf : FileAt B w v f) (hB : B ≤ w.heap.size) (ht : ∀ i, (textP f.pool i).size ≤ 1000000) (text : ByteArray) (hc : text.size ≤ 1000000) (n a b d : Int) :
    Calls Try.prog 59 #[v, .agg #[.int .i64 4, .string text, .int .i64 n, .int .i64 a, .int .i64 b, .int .i64 d]] w fun e w' => e = .returned (.int .i64 (constE f.pool ⟨4, text, n, a, b, d⟩)) ∧ Below w.heap.size w w' := by
  have HE := Lib.hid (show constE f.pool ⟨4, text, n, a, b, d⟩ = if rightTagB ⟨4, text, n, a, b, d⟩ = true then (if linksB f.pool ⟨4, text, n, a, b, d⟩ = true then textE f.pool ⟨4, text, n, a, b, d⟩ else 7) else 7 from rfl)
  have HTX := Lib.hid ht
  have HT1 := Lib.hid (fun r V W hW hWB i h => refTagged_at (B := B) r f V W hW hWB i 1 h)
  have HT4 := Lib.hid (fun r V W hW hWB i h => refTagged_at (B := B) r f V W hW hWB i 4 h)
  have HX := Lib.hid (fun V W hW hWB i h => reftext_any (B := B) f V W hW hWB i h)
  have HEN := fun W => Lib.hid (refEncode_any text W hc)
  have HRU := fun W => Lib.hid (refRunes_any text W hc)
  generalize constE f.pool ⟨4, text, n, a, b, d⟩ = R at *
  obtain ⟨Ap, cp, Ai, ci, Af, cf, Am, cm, rfl, hi⟩ := id hf
  have FL0 := Lib.hid ((hf.alloc hB (.cells #[.slice Ap f.pool.length cp, .int .i64 f.fl, .int .i64 f.this, .int .i64 f.super, .slice Ai f.ifs.length ci, .slice Af f.fds.length cf, .slice Am f.mts.length cm] 26)).alloc (le_alloc hB _) (.cells #[.int .i64 4, .string text, .int .i64 n, .int .i64 a, .int .i64 b, .int .i64 d] 47))
  have BE0 := Lib.hid (((Below.refl w.heap.size w).alloc (Nat.le_refl _) (.cells #[.slice Ap f.pool.length cp, .int .i64 f.fl, .int .i64 f.this, .int .i64 f.super, .slice Ai f.ifs.length ci, .slice Af f.fds.length cf, .slice Am f.mts.length cm] 26)).alloc (le_alloc (Nat.le_refl _) _) (.cells #[.int .i64 4, .string text, .int .i64 n, .int .i64 a, .int .i64 b, .int .i64 d] 47))
  have BF0 := Lib.hid ((FBox.new Ap cp Ai ci Af cf Am cm f w).alloc (.cells #[.int .i64 4, .string text, .int .i64 n, .int .i64 a, .int .i64 b, .int .i64 d] 47))
  have BM0 := Lib.hid (show CBox (w.heap.size + 1) 4 text n a b d _ from heap_new2 w (.cells #[.slice Ap f.pool.length cp, .int .i64 f.fl, .int .i64 f.this, .int .i64 f.super, .slice Ai f.ifs.length ci, .slice Af f.fds.length cf, .slice Am f.mts.length cm] 26) (.cells #[.int .i64 4, .string text, .int .i64 n, .int .i64 a, .int .i64 b, .int .i64 d] 47))
  clear hi hf ht hc
  rcases (str_nil (s := text)).symm with ⟨hx, e1, e2⟩ | ⟨hx, e1, e2⟩
  · have hx0 : ¬ text.size = 0 := by omega
    have HR := Lib.hid (show R = 7 by rw [HE.out]; simp [rightTagB, linksB, linkB, tag1, tag2, hx0])
    clear HE
    go_enter Try.func59, Try.ntmps59
    go_wp2
    go_ret
    exact ⟨ret_i HR.out.symm, BE0.out⟩
  rcases (show (n ≠ 0 ∧ (n == 0) = false ∧ (n != 0) = true) ∨ (n = 0) by
    by_cases h : n = 0
    · exact .inr h
    · exact .inl ⟨h, by simpa using h, by simpa using h⟩) with ⟨hn, gn, gn'⟩ | hn
  · have HR := Lib.hid (show R = 7 by rw [HE.out]; simp [rightTagB, linksB, linkB, tag1, tag2, hx, hn])
    clear HE
    go_enter Try.func59, Try.ntmps59
    go_wp2
    go_ret
    exact ⟨ret_i HR.out.symm, BE0.out⟩
  subst hn
  rcases (show (b ≠ 0 ∧ (b == 0) = false ∧ (b != 0) = true) ∨ (b = 0) by
    by_cases h : b = 0
    · exact .inr h
    · exact .inl ⟨h, by simpa using h, by simpa using h⟩) with ⟨hb, gb, gb'⟩ | hb
  · have HR := Lib.hid (show R = 7 by rw [HE.out]; simp [rightTagB, linksB, linkB, tag1, tag2, hx, hb])
    clear HE
    go_enter Try.func59, Try.ntmps59
    go_wp2
    go_ret
    exact ⟨ret_i HR.out.symm, BE0.out⟩
  subst hb
  rcases (show (d ≠ 0 ∧ (d == 0) = false ∧ (d != 0) = true) ∨ (d = 0) by
    by_cases h : d = 0
    · exact .inr h
    · exact .inl ⟨h, by simpa using h, by simpa using h⟩) with ⟨hd, gd, gd'⟩ | hd
  · have HR := Lib.hid (show R = 7 by rw [HE.out]; simp [rightTagB, linksB, linkB, tag1, tag2, hx, hd])
    clear HE
    go_enter Try.func59, Try.ntmps59
    go_wp2
    go_ret
    exact ⟨ret_i HR.out.symm, BE0.out⟩
  subst hd
  cases h1 : tagged f.pool a 1 with
  | false =>
    have HR := Lib.hid (show R = 7 by rw [HE.out]; simp [rightTagB, linksB, linkB, tag1, tag2, textE, hx, h1])
    have H1 := Lib.hid h1
    clear HE h1
    go_enter Try.func59, Try.ntmps59
    go_wp2_with fail
    refine (HT1.out false _ _ FL0.out (Nat.le_trans hB BE0.out.size) _ H1.out).mono ?_
    rintro e w1 ⟨rfl, hb⟩
    have BE1 := Lib.hid (Below.link BE0.out hb)
    have FL1 := Lib.hid (FL0.out.below hb (Nat.le_trans hB BE0.out.size))
    have BF1 := Lib.hid (BF0.out.below hb BF0.out.lt)
    have BM1 := Lib.hid (BM0.out.below hb BM0.out.lt)
    have ltf1 := BF1.out.lt
    have ltm1 := BM1.out.lt
    clear hb
    obtain ⟨c0, c1, c2, c3, c4, c5, c6⟩ := BF1.out.cells
    obtain ⟨m0, m1, m2, m3, m4, m5⟩ := BM1.out.cells
    go_wp2
    go_ret
    exact ⟨ret_i HR.out.symm, BE1.out⟩
  | true =>
    have H1 := Lib.hid h1
    have HNM := fun W => Lib.hid (refName_any (textP f.pool a) W (HTX.out _))
    have HFD := fun W => Lib.hid (refField_any (textP f.pool a) W (HTX.out _))
    have HR := Lib.hid (show R = if nameL (L (textP f.pool a)) = true then 0 else 8 by rw [HE.out]; simp [rightTagB, linksB, linkB, tag1, tag2, textE, hx, nameE, h1])
    clear HE h1
    obtain ⟨nb, hnb⟩ : ∃ q, nameL (L (textP f.pool a)) = q := ⟨_, rfl⟩
    rw [hnb] at HNM
    try rw [hnb] at HR
    clear hnb
    cases nb with
    | false =>
      go_enter Try.func59, Try.ntmps59
      go_wp2_with fail
      refine (HT1.out true _ _ FL0.out (Nat.le_trans hB BE0.out.size) _ H1.out).mono ?_
      rintro e w1 ⟨rfl, hb⟩
      have BE1 := Lib.hid (Below.link BE0.out hb)
      have FL1 := Lib.hid (FL0.out.below hb (Nat.le_trans hB BE0.out.size))
      have BF1 := Lib.hid (BF0.out.below hb BF0.out.lt)
      have BM1 := Lib.hid (BM0.out.below hb BM0.out.lt)
      have ltf1 := BF1.out.lt
      have ltm1 := BM1.out.lt
      clear hb
      obtain ⟨c0, c1, c2, c3, c4, c5, c6⟩ := BF1.out.cells
      obtain ⟨m0, m1, m2, m3, m4, m5⟩ := BM1.out.cells
      go_wp2_with fail
      refine (HX.out _ _ FL1.out (Nat.le_trans hB BE1.out.size) _ H1.out).mono ?_
      rintro e w2 ⟨rfl, hb⟩
      have BE2 := Lib.hid (Below.link BE1.out hb)
      have FL2 := Lib.hid (FL1.out.below hb (Nat.le_trans hB BE1.out.size))
      have BF2 := Lib.hid (BF1.out.below hb BF1.out.lt)
      have BM2 := Lib.hid (BM1.out.below hb BM1.out.lt)
      have ltf2 := BF2.out.lt
      have ltm2 := BM2.out.lt
      clear hb
      clear c0 c1 c2 c3 c4 c5 c6 m0 m1 m2 m3 m4 m5
      obtain ⟨c0, c1, c2, c3, c4, c5, c6⟩ := BF2.out.cells
      obtain ⟨m0, m1, m2, m3, m4, m5⟩ := BM2.out.cells
      go_wp2_with fail
      refine ((HNM _).out).mono ?_
      rintro e w3 ⟨rfl, hb⟩
      have BE3 := Lib.hid (Below.link BE2.out hb)
      have FL3 := Lib.hid (FL2.out.below hb (Nat.le_trans hB BE2.out.size))
      have BF3 := Lib.hid (BF2.out.below hb BF2.out.lt)
      have BM3 := Lib.hid (BM2.out.below hb BM2.out.lt)
      have ltf3 := BF3.out.lt
      have ltm3 := BM3.out.lt
      clear hb
      clear c0 c1 c2 c3 c4 c5 c6 m0 m1 m2 m3 m4 m5
      obtain ⟨c0, c1, c2, c3, c4, c5, c6⟩ := BF3.out.cells
      obtain ⟨m0, m1, m2, m3, m4, m5⟩ := BM3.out.cells
      go_wp2
      go_ret
      exact ⟨ret_i (by rw [HR.out]; rfl), BE3.out⟩
    | true =>
      go_enter Try.func59, Try.ntmps59
      go_wp2_with fail
      refine (HT1.out true _ _ FL0.out (Nat.le_trans hB BE0.out.size) _ H1.out).mono ?_
      rintro e w1 ⟨rfl, hb⟩
      have BE1 := Lib.hid (Below.link BE0.out hb)
      have FL1 := Lib.hid (FL0.out.below hb (Nat.le_trans hB BE0.out.size))
      have BF1 := Lib.hid (BF0.out.below hb BF0.out.lt)
      have BM1 := Lib.hid (BM0.out.below hb BM0.out.lt)
      have ltf1 := BF1.out.lt
      have ltm1 := BM1.out.lt
      clear hb
      obtain ⟨c0, c1, c2, c3, c4, c5, c6⟩ := BF1.out.cells
      obtain ⟨m0, m1, m2, m3, m4, m5⟩ := BM1.out.cells
      go_wp2_with fail
      refine (HX.out _ _ FL1.out (Nat.le_trans hB BE1.out.size) _ H1.out).mono ?_
      rintro e w2 ⟨rfl, hb⟩
      have BE2 := Lib.hid (Below.link BE1.out hb)
      have FL2 := Lib.hid (FL1.out.below hb (Nat.le_trans hB BE1.out.size))
      have BF2 := Lib.hid (BF1.out.below hb BF1.out.lt)
      have BM2 := Lib.hid (BM1.out.below hb BM1.out.lt)
      have ltf2 := BF2.out.lt
      have ltm2 := BM2.out.lt
      clear hb
      clear c0 c1 c2 c3 c4 c5 c6 m0 m1 m2 m3 m4 m5
      obtain ⟨c0, c1, c2, c3, c4, c5, c6⟩ := BF2.out.cells
      obtain ⟨m0, m1, m2, m3, m4, m5⟩ := BM2.out.cells
      go_wp2_with fail
      refine ((HNM _).out).mono ?_
      rintro e w3 ⟨rfl, hb⟩
      have BE3 := Lib.hid (Below.link BE2.out hb)
      have FL3 := Lib.hid (FL2.out.below hb (Nat.le_trans hB BE2.out.size))
      have BF3 := Lib.hid (BF2.out.below hb BF2.out.lt)
      have BM3 := Lib.hid (BM2.out.below hb BM2.out.lt)
      have ltf3 := BF3.out.lt
      have ltm3 := BM3.out.lt
      clear hb
      clear c0 c1 c2 c3 c4 c5 c6 m0 m1 m2 m3 m4 m5
      obtain ⟨c0, c1, c2, c3, c4, c5, c6⟩ := BF3.out.cells
      obtain ⟨m0, m1, m2, m3, m4, m5⟩ := BM3.out.cells
      go_wp2
      go_ret
      exact ⟨ret_i (by rw [HR.out]; rfl), BE3.out⟩
set_option maxRecDepth 1000000 in
set_option maxHeartbeats 6400000 in
theorem refConst_7 {B : Nat} (f : Fl) (v : Value) (w : World) (hf : FileAt B w v f) (hB : B ≤ w.heap.size) (ht : ∀ i, (textP f.pool i).size ≤ 1000000) (text : ByteArray) (hc : text.size ≤ 1000000) (n a b d : Int) :
    Calls Try.prog 59 #[v, .agg #[.int .i64 7, .string text, .int .i64 n, .int .i64 a, .int .i64 b, .int .i64 d]] w fun e w' => e = .returned (.int .i64 (constE f.pool ⟨7, text, n, a, b, d⟩)) ∧ Below w.heap.size w w' := by
  have HE := Lib.hid (show constE f.pool ⟨7, text, n, a, b, d⟩ = if rightTagB ⟨7, text, n, a, b, d⟩ = true then (if linksB f.pool ⟨7, text, n, a, b, d⟩ = true then textE f.pool ⟨7, text, n, a, b, d⟩ else 7) else 7 from rfl)
  have HTX := Lib.hid ht
  have HT1 := Lib.hid (fun r V W hW hWB i h => refTagged_at (B := B) r f V W hW hWB i 1 h)
  have HT4 := Lib.hid (fun r V W hW hWB i h => refTagged_at (B := B) r f V W hW hWB i 4 h)
  have HX := Lib.hid (fun V W hW hWB i h => reftext_any (B := B) f V W hW hWB i h)
  have HEN := fun W => Lib.hid (refEncode_any text W hc)
  have HRU := fun W => Lib.hid (refRunes_any text W hc)
  generalize constE f.pool ⟨7, text, n, a, b, d⟩ = R at *
  obtain ⟨Ap, cp, Ai, ci, Af, cf, Am, cm, rfl, hi⟩ := id hf
  have FL0 := Lib.hid ((hf.alloc hB (.cells #[.slice Ap f.pool.length cp, .int .i64 f.fl, .int .i64 f.this, .int .i64 f.super, .slice Ai f.ifs.length ci, .slice Af f.fds.length cf, .slice Am f.mts.length cm] 26)).alloc (le_alloc hB _) (.cells #[.int .i64 7, .string text, .int .i64 n, .int .i64 a, .int .i64 b, .int .i64 d] 47))
  have BE0 := Lib.hid (((Below.refl w.heap.size w).alloc (Nat.le_refl _) (.cells #[.slice Ap f.pool.length cp, .int .i64 f.fl, .int .i64 f.this, .int .i64 f.super, .slice Ai f.ifs.length ci, .slice Af f.fds.length cf, .slice Am f.mts.length cm] 26)).alloc (le_alloc (Nat.le_refl _) _) (.cells #[.int .i64 7, .string text, .int .i64 n, .int .i64 a, .int .i64 b, .int .i64 d] 47))
  have BF0 := Lib.hid ((FBox.new Ap cp Ai ci Af cf Am cm f w).alloc (.cells #[.int .i64 7, .string text, .int .i64 n, .int .i64 a, .int .i64 b, .int .i64 d] 47))
  have BM0 := Lib.hid (show CBox (w.heap.size + 1) 7 text n a b d _ from heap_new2 w (.cells #[.slice Ap f.pool.length cp, .int .i64 f.fl, .int .i64 f.this, .int .i64 f.super, .slice Ai f.ifs.length ci, .slice Af f.fds.length cf, .slice Am f.mts.length cm] 26) (.cells #[.int .i64 7, .string text, .int .i64 n, .int .i64 a, .int .i64 b, .int .i64 d] 47))
  clear hi hf ht hc
  rcases (str_nil (s := text)).symm with ⟨hx, e1, e2⟩ | ⟨hx, e1, e2⟩
  · have hx0 : ¬ text.size = 0 := by omega
    have HR := Lib.hid (show R = 7 by rw [HE.out]; simp [rightTagB, linksB, linkB, tag1, tag2, hx0])
    clear HE
    go_enter Try.func59, Try.ntmps59
    go_wp2
    go_ret
    exact ⟨ret_i HR.out.symm, BE0.out⟩
  rcases (show (n ≠ 0 ∧ (n == 0) = false ∧ (n != 0) = true) ∨ (n = 0) by
    by_cases h : n = 0
    · exact .inr h
    · exact .inl ⟨h, by simpa using h, by simpa using h⟩) with ⟨hn, gn, gn'⟩ | hn
  · have HR := Lib.hid (show R = 7 by rw [HE.out]; simp [rightTagB, linksB, linkB, tag1, tag2, hx, hn])
    clear HE
    go_enter Try.func59, Try.ntmps59
    go_wp2
    go_ret
    exact ⟨ret_i HR.out.symm, BE0.out⟩
  subst hn
  rcases (show (b ≠ 0 ∧ (b == 0) = false ∧ (b != 0) = true) ∨ (b = 0) by
    by_cases h : b = 0
    · exact .inr h
    · exact .inl ⟨h, by simpa using h, by simpa using h⟩) with ⟨hb, gb, gb'⟩ | hb
  · have HR := Lib.hid (show R = 7 by rw [HE.out]; simp [rightTagB, linksB, linkB, tag1, tag2, hx, hb])
    clear HE
    go_enter Try.func59, Try.ntmps59
    go_wp2
    go_ret
    exact ⟨ret_i HR.out.symm, BE0.out⟩
  subst hb
  rcases (show (d ≠ 0 ∧ (d == 0) = false ∧ (d != 0) = true) ∨ (d = 0) by
    by_cases h : d = 0
    · exact .inr h
    · exact .inl ⟨h, by simpa using h, by simpa using h⟩) with ⟨hd, gd, gd'⟩ | hd
  · have HR := Lib.hid (show R = 7 by rw [HE.out]; simp [rightTagB, linksB, linkB, tag1, tag2, hx, hd])
    clear HE
    go_enter Try.func59, Try.ntmps59
    go_wp2
    go_ret
    exact ⟨ret_i HR.out.symm, BE0.out⟩
  subst hd
  cases h1 : tagged f.pool a 1 with
  | false =>
    have HR := Lib.hid (show R = 7 by rw [HE.out]; simp [rightTagB, linksB, linkB, tag1, tag2, textE, hx, h1])
    have H1 := Lib.hid h1
    clear HE h1
    go_enter Try.func59, Try.ntmps59
    go_wp2_with fail
    refine (HT1.out false _ _ FL0.out (Nat.le_trans hB BE0.out.size) _ H1.out).mono ?_
    rintro e w1 ⟨rfl, hb⟩
    have BE1 := Lib.hid (Below.link BE0.out hb)
    have FL1 := Lib.hid (FL0.out.below hb (Nat.le_trans hB BE0.out.size))
    have BF1 := Lib.hid (BF0.out.below hb BF0.out.lt)
    have BM1 := Lib.hid (BM0.out.below hb BM0.out.lt)
    have ltf1 := BF1.out.lt
    have ltm1 := BM1.out.lt
    clear hb
    obtain ⟨c0, c1, c2, c3, c4, c5, c6⟩ := BF1.out.cells
    obtain ⟨m0, m1, m2, m3, m4, m5⟩ := BM1.out.cells
    go_wp2
    go_ret
    exact ⟨ret_i HR.out.symm, BE1.out⟩
  | true =>
    have H1 := Lib.hid h1
    have HNM := fun W => Lib.hid (refName_any (textP f.pool a) W (HTX.out _))
    have HFD := fun W => Lib.hid (refField_any (textP f.pool a) W (HTX.out _))
    have HR' := Lib.hid (show R = typeE (textP f.pool a) by rw [HE.out]; simp [rightTagB, linksB, linkB, tag1, tag2, textE, hx, h1])
    have HR := Lib.hid (show R = match fieldL (L (textP f.pool a)) with | some _ => 0 | none => 9 from HR'.out)
    clear HR'
    clear HE h1
    obtain ⟨nb, hnb⟩ : ∃ q, nameL (L (textP f.pool a)) = q := ⟨_, rfl⟩
    rw [hnb] at HNM
    try rw [hnb] at HR
    clear hnb
    obtain ⟨x, hx2⟩ : ∃ x, fieldL (L (textP f.pool a)) = x := ⟨_, rfl⟩
    rw [hx2] at HFD HR
    clear hx2
    cases nb with
    | false =>
      cases x with
      | none =>
        rw [show fdV none = .tuple #[.agg #[.int .i64 0, .string ⟨#[]⟩], .int .i64 9] from rfl] at HFD
        go_enter Try.func59, Try.ntmps59
        go_wp2_with fail
        refine (HT1.out true _ _ FL0.out (Nat.le_trans hB BE0.out.size) _ H1.out).mono ?_
        rintro e w1 ⟨rfl, hb⟩
        have BE1 := Lib.hid (Below.link BE0.out hb)
        have FL1 := Lib.hid (FL0.out.below hb (Nat.le_trans hB BE0.out.size))
        have BF1 := Lib.hid (BF0.out.below hb BF0.out.lt)
        have BM1 := Lib.hid (BM0.out.below hb BM0.out.lt)
        have ltf1 := BF1.out.lt
        have ltm1 := BM1.out.lt
        clear hb
        obtain ⟨c0, c1, c2, c3, c4, c5, c6⟩ := BF1.out.cells
        obtain ⟨m0, m1, m2, m3, m4, m5⟩ := BM1.out.cells
        go_wp2_with fail
        refine (HX.out _ _ FL1.out (Nat.le_trans hB BE1.out.size) _ H1.out).mono ?_
        rintro e w2 ⟨rfl, hb⟩
        have BE2 := Lib.hid (Below.link BE1.out hb)
        have FL2 := Lib.hid (FL1.out.below hb (Nat.le_trans hB BE1.out.size))
        have BF2 := Lib.hid (BF1.out.below hb BF1.out.lt)
        have BM2 := Lib.hid (BM1.out.below hb BM1.out.lt)
        have ltf2 := BF2.out.lt
        have ltm2 := BM2.out.lt
        clear hb
        clear c0 c1 c2 c3 c4 c5 c6 m0 m1 m2 m3 m4 m5
        obtain ⟨c0, c1, c2, c3, c4, c5, c6⟩ := BF2.out.cells
        obtain ⟨m0, m1, m2, m3, m4, m5⟩ := BM2.out.cells
        go_wp2_with fail
        refine ((HNM _).out).mono ?_
        rintro e w3 ⟨rfl, hb⟩
        have BE3 := Lib.hid (Below.link BE2.out hb)
        have FL3 := Lib.hid (FL2.out.below hb (Nat.le_trans hB BE2.out.size))
        have BF3 := Lib.hid (BF2.out.below hb BF2.out.lt)
        have BM3 := Lib.hid (BM2.out.below hb BM2.out.lt)
        have ltf3 := BF3.out.lt
        have ltm3 := BM3.out.lt
        clear hb
        clear c0 c1 c2 c3 c4 c5 c6 m0 m1 m2 m3 m4 m5
        obtain ⟨c0, c1, c2, c3, c4, c5, c6⟩ := BF3.out.cells
        obtain ⟨m0, m1, m2, m3, m4, m5⟩ := BM3.out.cells
        go_wp2_with fail
        refine (HFD _).out.mono ?_
        rintro e w4 ⟨rfl, hb⟩
        have BE4 := Lib.hid ((Below.link BE3.out hb).alloc (Nat.le_trans BE3.out.size hb.size) (.cells #[.int .i64 0, .string ⟨#[]⟩] 98))
        clear hb
        go_wp2
        go_ret
        exact ⟨ret_i HR.out.symm, BE4.out⟩
      | some q =>
        rw [show fdV (some q) = .tuple #[.agg #[.int .i64 q.1, .string (mkB q.2)], .int .i64 0] from rfl] at HFD
        go_enter Try.func59, Try.ntmps59
        go_wp2_with fail
        refine (HT1.out true _ _ FL0.out (Nat.le_trans hB BE0.out.size) _ H1.out).mono ?_
        rintro e w1 ⟨rfl, hb⟩
        have BE1 := Lib.hid (Below.link BE0.out hb)
        have FL1 := Lib.hid (FL0.out.below hb (Nat.le_trans hB BE0.out.size))
        have BF1 := Lib.hid (BF0.out.below hb BF0.out.lt)
        have BM1 := Lib.hid (BM0.out.below hb BM0.out.lt)
        have ltf1 := BF1.out.lt
        have ltm1 := BM1.out.lt
        clear hb
        obtain ⟨c0, c1, c2, c3, c4, c5, c6⟩ := BF1.out.cells
        obtain ⟨m0, m1, m2, m3, m4, m5⟩ := BM1.out.cells
        go_wp2_with fail
        refine (HX.out _ _ FL1.out (Nat.le_trans hB BE1.out.size) _ H1.out).mono ?_
        rintro e w2 ⟨rfl, hb⟩
        have BE2 := Lib.hid (Below.link BE1.out hb)
        have FL2 := Lib.hid (FL1.out.below hb (Nat.le_trans hB BE1.out.size))
        have BF2 := Lib.hid (BF1.out.below hb BF1.out.lt)
        have BM2 := Lib.hid (BM1.out.below hb BM1.out.lt)
        have ltf2 := BF2.out.lt
        have ltm2 := BM2.out.lt
        clear hb
        clear c0 c1 c2 c3 c4 c5 c6 m0 m1 m2 m3 m4 m5
        obtain ⟨c0, c1, c2, c3, c4, c5, c6⟩ := BF2.out.cells
        obtain ⟨m0, m1, m2, m3, m4, m5⟩ := BM2.out.cells
        go_wp2_with fail
        refine ((HNM _).out).mono ?_
        rintro e w3 ⟨rfl, hb⟩
        have BE3 := Lib.hid (Below.link BE2.out hb)
        have FL3 := Lib.hid (FL2.out.below hb (Nat.le_trans hB BE2.out.size))
        have BF3 := Lib.hid (BF2.out.below hb BF2.out.lt)
        have BM3 := Lib.hid (BM2.out.below hb BM2.out.lt)
        have ltf3 := BF3.out.lt
        have ltm3 := BM3.out.lt
        clear hb
        clear c0 c1 c2 c3 c4 c5 c6 m0 m1 m2 m3 m4 m5
        obtain ⟨c0, c1, c2, c3, c4, c5, c6⟩ := BF3.out.cells
        obtain ⟨m0, m1, m2, m3, m4, m5⟩ := BM3.out.cells
        go_wp2_with fail
        refine (HFD _).out.mono ?_
        rintro e w4 ⟨rfl, hb⟩
        have BE4 := Lib.hid ((Below.link BE3.out hb).alloc (Nat.le_trans BE3.out.size hb.size) (.cells #[.int .i64 q.1, .string (mkB q.2)] 98))
        clear hb
        go_wp2
        go_ret
        exact ⟨ret_i HR.out.symm, BE4.out⟩
    | true =>
      cases x with
      | none =>
        rw [show fdV none = .tuple #[.agg #[.int .i64 0, .string ⟨#[]⟩], .int .i64 9] from rfl] at HFD
        go_enter Try.func59, Try.ntmps59
        go_wp2_with fail
        refine (HT1.out true _ _ FL0.out (Nat.le_trans hB BE0.out.size) _ H1.out).mono ?_
        rintro e w1 ⟨rfl, hb⟩
        have BE1 := Lib.hid (Below.link BE0.out hb)
        have FL1 := Lib.hid (FL0.out.below hb (Nat.le_trans hB BE0.out.size))
        have BF1 := Lib.hid (BF0.out.below hb BF0.out.lt)
        have BM1 := Lib.hid (BM0.out.below hb BM0.out.lt)
        have ltf1 := BF1.out.lt
        have ltm1 := BM1.out.lt
        clear hb
        obtain ⟨c0, c1, c2, c3, c4, c5, c6⟩ := BF1.out.cells
        obtain ⟨m0, m1, m2, m3, m4, m5⟩ := BM1.out.cells
        go_wp2_with fail
        refine (HX.out _ _ FL1.out (Nat.le_trans hB BE1.out.size) _ H1.out).mono ?_
        rintro e w2 ⟨rfl, hb⟩
        have BE2 := Lib.hid (Below.link BE1.out hb)
        have FL2 := Lib.hid (FL1.out.below hb (Nat.le_trans hB BE1.out.size))
        have BF2 := Lib.hid (BF1.out.below hb BF1.out.lt)
        have BM2 := Lib.hid (BM1.out.below hb BM1.out.lt)
        have ltf2 := BF2.out.lt
        have ltm2 := BM2.out.lt
        clear hb
        clear c0 c1 c2 c3 c4 c5 c6 m0 m1 m2 m3 m4 m5
        obtain ⟨c0, c1, c2, c3, c4, c5, c6⟩ := BF2.out.cells
        obtain ⟨m0, m1, m2, m3, m4, m5⟩ := BM2.out.cells
        go_wp2_with fail
        refine ((HNM _).out).mono ?_
        rintro e w3 ⟨rfl, hb⟩
        have BE3 := Lib.hid (Below.link BE2.out hb)
        have FL3 := Lib.hid (FL2.out.below hb (Nat.le_trans hB BE2.out.size))
        have BF3 := Lib.hid (BF2.out.below hb BF2.out.lt)
        have BM3 := Lib.hid (BM2.out.below hb BM2.out.lt)
        have ltf3 := BF3.out.lt
        have ltm3 := BM3.out.lt
        clear hb
        clear c0 c1 c2 c3 c4 c5 c6 m0 m1 m2 m3 m4 m5
        obtain ⟨c0, c1, c2, c3, c4, c5, c6⟩ := BF3.out.cells
        obtain ⟨m0, m1, m2, m3, m4, m5⟩ := BM3.out.cells
        go_wp2_with fail
        refine (HFD _).out.mono ?_
        rintro e w4 ⟨rfl, hb⟩
        have BE4 := Lib.hid ((Below.link BE3.out hb).alloc (Nat.le_trans BE3.out.size hb.size) (.cells #[.int .i64 0, .string ⟨#[]⟩] 98))
        clear hb
        go_wp2
        go_ret
        exact ⟨ret_i HR.out.symm, BE4.out⟩
      | some q =>
        rw [show fdV (some q) = .tuple #[.agg #[.int .i64 q.1, .string (mkB q.2)], .int .i64 0] from rfl] at HFD
        go_enter Try.func59, Try.ntmps59
        go_wp2_with fail
        refine (HT1.out true _ _ FL0.out (Nat.le_trans hB BE0.out.size) _ H1.out).mono ?_
        rintro e w1 ⟨rfl, hb⟩
        have BE1 := Lib.hid (Below.link BE0.out hb)
        have FL1 := Lib.hid (FL0.out.below hb (Nat.le_trans hB BE0.out.size))
        have BF1 := Lib.hid (BF0.out.below hb BF0.out.lt)
        have BM1 := Lib.hid (BM0.out.below hb BM0.out.lt)
        have ltf1 := BF1.out.lt
        have ltm1 := BM1.out.lt
        clear hb
        obtain ⟨c0, c1, c2, c3, c4, c5, c6⟩ := BF1.out.cells
        obtain ⟨m0, m1, m2, m3, m4, m5⟩ := BM1.out.cells
        go_wp2_with fail
        refine (HX.out _ _ FL1.out (Nat.le_trans hB BE1.out.size) _ H1.out).mono ?_
        rintro e w2 ⟨rfl, hb⟩
        have BE2 := Lib.hid (Below.link BE1.out hb)
        have FL2 := Lib.hid (FL1.out.below hb (Nat.le_trans hB BE1.out.size))
        have BF2 := Lib.hid (BF1.out.below hb BF1.out.lt)
        have BM2 := Lib.hid (BM1.out.below hb BM1.out.lt)
        have ltf2 := BF2.out.lt
        have ltm2 := BM2.out.lt
        clear hb
        clear c0 c1 c2 c3 c4 c5 c6 m0 m1 m2 m3 m4 m5
        obtain ⟨c0, c1, c2, c3, c4, c5, c6⟩ := BF2.out.cells
        obtain ⟨m0, m1, m2, m3, m4, m5⟩ := BM2.out.cells
        go_wp2_with fail
        refine ((HNM _).out).mono ?_
        rintro e w3 ⟨rfl, hb⟩
        have BE3 := Lib.hid (Below.link BE2.out hb)
        have FL3 := Lib.hid (FL2.out.below hb (Nat.le_trans hB BE2.out.size))
        have BF3 := Lib.hid (BF2.out.below hb BF2.out.lt)
        have BM3 := Lib.hid (BM2.out.below hb BM2.out.lt)
        have ltf3 := BF3.out.lt
        have ltm3 := BM3.out.lt
        clear hb
        clear c0 c1 c2 c3 c4 c5 c6 m0 m1 m2 m3 m4 m5
        obtain ⟨c0, c1, c2, c3, c4, c5, c6⟩ := BF3.out.cells
        obtain ⟨m0, m1, m2, m3, m4, m5⟩ := BM3.out.cells
        go_wp2_with fail
        refine (HFD _).out.mono ?_
        rintro e w4 ⟨rfl, hb⟩
        have BE4 := Lib.hid ((Below.link BE3.out hb).alloc (Nat.le_trans BE3.out.size hb.size) (.cells #[.int .i64 q.1, .string (mkB q.2)] 98))
        clear hb
        go_wp2
        go_ret
        exact ⟨ret_i HR.out.symm, BE4.out⟩
set_option maxRecDepth 1000000 in
set_option maxHeartbeats 6400000 in
theorem refConst_5 {B : Nat} (f : Fl) (v : Value) (w : World) (hf : FileAt B w v f) (hB : B ≤ w.heap.size) (ht : ∀ i, (textP f.pool i).size ≤ 1000000) (text : ByteArray) (hc : text.size ≤ 1000000) (n a b d : Int) :
    Calls Try.prog 59 #[v, .agg #[.int .i64 5, .string text, .int .i64 n, .int .i64 a, .int .i64 b, .int .i64 d]] w fun e w' => e = .returned (.int .i64 (constE f.pool ⟨5, text, n, a, b, d⟩)) ∧ Below w.heap.size w w' := by
  have HE := Lib.hid (show constE f.pool ⟨5, text, n, a, b, d⟩ = if rightTagB ⟨5, text, n, a, b, d⟩ = true then (if linksB f.pool ⟨5, text, n, a, b, d⟩ = true then textE f.pool ⟨5, text, n, a, b, d⟩ else 7) else 7 from rfl)
  have HTX := Lib.hid ht
  have HT1 := Lib.hid (fun r V W hW hWB i h => refTagged_at (B := B) r f V W hW hWB i 1 h)
  have HT4 := Lib.hid (fun r V W hW hWB i h => refTagged_at (B := B) r f V W hW hWB i 4 h)
  have HX := Lib.hid (fun V W hW hWB i h => reftext_any (B := B) f V W hW hWB i h)
  have HEN := fun W => Lib.hid (refEncode_any text W hc)
  have HRU := fun W => Lib.hid (refRunes_any text W hc)
  generalize constE f.pool ⟨5, text, n, a, b, d⟩ = R at *
  obtain ⟨Ap, cp, Ai, ci, Af, cf, Am, cm, rfl, hi⟩ := id hf
  have FL0 := Lib.hid ((hf.alloc hB (.cells #[.slice Ap f.pool.length cp, .int .i64 f.fl, .int .i64 f.this, .int .i64 f.super, .slice Ai f.ifs.length ci, .slice Af f.fds.length cf, .slice Am f.mts.length cm] 26)).alloc (le_alloc hB _) (.cells #[.int .i64 5, .string text, .int .i64 n, .int .i64 a, .int .i64 b, .int .i64 d] 47))
  have BE0 := Lib.hid (((Below.refl w.heap.size w).alloc (Nat.le_refl _) (.cells #[.slice Ap f.pool.length cp, .int .i64 f.fl, .int .i64 f.this, .int .i64 f.super, .slice Ai f.ifs.length ci, .slice Af f.fds.length cf, .slice Am f.mts.length cm] 26)).alloc (le_alloc (Nat.le_refl _) _) (.cells #[.int .i64 5, .string text, .int .i64 n, .int .i64 a, .int .i64 b, .int .i64 d] 47))
  have BF0 := Lib.hid ((FBox.new Ap cp Ai ci Af cf Am cm f w).alloc (.cells #[.int .i64 5, .string text, .int .i64 n, .int .i64 a, .int .i64 b, .int .i64 d] 47))
  have BM0 := Lib.hid (show CBox (w.heap.size + 1) 5 text n a b d _ from heap_new2 w (.cells #[.slice Ap f.pool.length cp, .int .i64 f.fl, .int .i64 f.this, .int .i64 f.super, .slice Ai f.ifs.length ci, .slice Af f.fds.length cf, .slice Am f.mts.length cm] 26) (.cells #[.int .i64 5, .string text, .int .i64 n, .int .i64 a, .int .i64 b, .int .i64 d] 47))
  clear hi hf ht hc
  rcases (str_nil (s := text)).symm with ⟨hx, e1, e2⟩ | ⟨hx, e1, e2⟩
  · have hx0 : ¬ text.size = 0 := by omega
    have HR := Lib.hid (show R = 7 by rw [HE.out]; simp [rightTagB, linksB, linkB, tag1, tag2, hx0])
    clear HE
    go_enter Try.func59, Try.ntmps59
    go_wp2
    go_ret
    exact ⟨ret_i HR.out.symm, BE0.out⟩
  rcases (show (n ≠ 0 ∧ (n == 0) = false ∧ (n != 0) = true) ∨ (n = 0) by
    by_cases h : n = 0
    · exact .inr h
    · exact .inl ⟨h, by simpa using h, by simpa using h⟩) with ⟨hn, gn, gn'⟩ | hn
  · have HR := Lib.hid (show R = 7 by rw [HE.out]; simp [rightTagB, linksB, linkB, tag1, tag2, hx, hn])
    clear HE
    go_enter Try.func59, Try.ntmps59
    go_wp2
    go_ret
    exact ⟨ret_i HR.out.symm, BE0.out⟩
  subst hn
  have HR := Lib.hid (show R = if tagged f.pool a 4 && (tagged f.pool b 1 && tagged f.pool d 1) then (if nameL (L (textP f.pool b)) = true then descE false (textP f.pool d) else 8) else 7 by
    have h1 := pairE_desc f.pool b d false
    rw [if_neg (by decide)] at h1
    rw [← h1, HE.out]
    simp [rightTagB, linksB, linkB, tag1, tag2, textE, hx])
  clear HE
  obtain ⟨t1, ht1⟩ : ∃ q, tagged f.pool a 4 = q := ⟨_, rfl⟩
  obtain ⟨t2, ht2⟩ : ∃ q, tagged f.pool b 1 = q := ⟨_, rfl⟩
  obtain ⟨t3, ht3⟩ : ∃ q, tagged f.pool d 1 = q := ⟨_, rfl⟩
  rw [ht1, ht2, ht3] at HR
  have H1 := Lib.hid ht1
  have H2 := Lib.hid ht2
  have H3 := Lib.hid ht3
  clear ht1 ht2 ht3
  have HNM := fun W => Lib.hid (refName_any (textP f.pool b) W (HTX.out _))
  have HDS := fun W => Lib.hid (described_any (textP f.pool d) false W (HTX.out _))
  obtain ⟨nb, hnb⟩ : ∃ q, nameL (L (textP f.pool b)) = q := ⟨_, rfl⟩
  obtain ⟨de, hde⟩ : ∃ q, descE false (textP f.pool d) = q := ⟨_, rfl⟩
  rw [hnb, hde] at HR
  rw [hnb] at HNM
  rw [hde] at HDS
  clear hnb hde
  rcases (Classical.em ((t1 && (t2 && t3)) = true)).symm with hall | hall
  · have hall2 : (t1 && (t2 && t3)) = false := by simpa using hall
    have HR7 := Lib.hid (show R = 7 by rw [HR.out, hall2]; rfl)
    clear HR hall
    cases t1 <;> cases t2 <;> cases t3 <;> first | (exact absurd hall2 (by decide)) | skip
    all_goals
      clear hall2
      go_enter Try.func59, Try.ntmps59
      go_wp2_with fail
      refine (HT4.out _ _ _ FL0.out (Nat.le_trans hB BE0.out.size) _ H1.out).mono ?_
      rintro e w1 ⟨rfl, hb⟩
      have BE1 := Lib.hid (Below.link BE0.out hb)
      have FL1 := Lib.hid (FL0.out.below hb (Nat.le_trans hB BE0.out.size))
      have BF1 := Lib.hid (BF0.out.below hb BF0.out.lt)
      have BM1 := Lib.hid (BM0.out.below hb BM0.out.lt)
      have ltf1 := BF1.out.lt
      have ltm1 := BM1.out.lt
      clear hb
      obtain ⟨c0, c1, c2, c3, c4, c5, c6⟩ := BF1.out.cells
      obtain ⟨m0, m1, m2, m3, m4, m5⟩ := BM1.out.cells
      go_wp2_with fail
      refine (HT1.out _ _ _ FL1.out (Nat.le_trans hB BE1.out.size) _ H2.out).mono ?_
      rintro e w2 ⟨rfl, hb⟩
      have BE2 := Lib.hid (Below.link BE1.out hb)
      have FL2 := Lib.hid (FL1.out.below hb (Nat.le_trans hB BE1.out.size))
      have BF2 := Lib.hid (BF1.out.below hb BF1.out.lt)
      have BM2 := Lib.hid (BM1.out.below hb BM1.out.lt)
      have ltf2 := BF2.out.lt
      have ltm2 := BM2.out.lt
      clear hb
      clear c0 c1 c2 c3 c4 c5 c6 m0 m1 m2 m3 m4 m5
      obtain ⟨c0, c1, c2, c3, c4, c5, c6⟩ := BF2.out.cells
      obtain ⟨m0, m1, m2, m3, m4, m5⟩ := BM2.out.cells
      go_wp2_with fail
      refine (HT1.out _ _ _ FL2.out (Nat.le_trans hB BE2.out.size) _ H3.out).mono ?_
      rintro e w3 ⟨rfl, hb⟩
      have BE3 := Lib.hid (Below.link BE2.out hb)
      have FL3 := Lib.hid (FL2.out.below hb (Nat.le_trans hB BE2.out.size))
      have BF3 := Lib.hid (BF2.out.below hb BF2.out.lt)
      have BM3 := Lib.hid (BM2.out.below hb BM2.out.lt)
      have ltf3 := BF3.out.lt
      have ltm3 := BM3.out.lt
      clear hb
      clear c0 c1 c2 c3 c4 c5 c6 m0 m1 m2 m3 m4 m5
      obtain ⟨c0, c1, c2, c3, c4, c5, c6⟩ := BF3.out.cells
      obtain ⟨m0, m1, m2, m3, m4, m5⟩ := BM3.out.cells
      go_wp2
      go_ret
      exact ⟨ret_i HR7.out.symm, BE3.out⟩
  · simp only [Bool.and_eq_true] at hall
    obtain ⟨rfl, rfl, rfl⟩ := hall
    cases nb with
    | false =>
      have HR8 := Lib.hid (show R = 8 by rw [HR.out]; rfl)
      clear HR
      go_enter Try.func59, Try.ntmps59
      go_wp2_with fail
      refine (HT4.out _ _ _ FL0.out (Nat.le_trans hB BE0.out.size) _ H1.out).mono ?_
      rintro e w1 ⟨rfl, hb⟩
      have BE1 := Lib.hid (Below.link BE0.out hb)
      have FL1 := Lib.hid (FL0.out.below hb (Nat.le_trans hB BE0.out.size))
      have BF1 := Lib.hid (BF0.out.below hb BF0.out.lt)
      have BM1 := Lib.hid (BM0.out.below hb BM0.out.lt)
      have ltf1 := BF1.out.lt
      have ltm1 := BM1.out.lt
      clear hb
      obtain ⟨c0, c1, c2, c3, c4, c5, c6⟩ := BF1.out.cells
      obtain ⟨m0, m1, m2, m3, m4, m5⟩ := BM1.out.cells
      go_wp2_with fail
      refine (HT1.out _ _ _ FL1.out (Nat.le_trans hB BE1.out.size) _ H2.out).mono ?_
      rintro e w2 ⟨rfl, hb⟩
      have BE2 := Lib.hid (Below.link BE1.out hb)
      have FL2 := Lib.hid (FL1.out.below hb (Nat.le_trans hB BE1.out.size))
      have BF2 := Lib.hid (BF1.out.below hb BF1.out.lt)
      have BM2 := Lib.hid (BM1.out.below hb BM1.out.lt)
      have ltf2 := BF2.out.lt
      have ltm2 := BM2.out.lt
      clear hb
      clear c0 c1 c2 c3 c4 c5 c6 m0 m1 m2 m3 m4 m5
      obtain ⟨c0, c1, c2, c3, c4, c5, c6⟩ := BF2.out.cells
      obtain ⟨m0, m1, m2, m3, m4, m5⟩ := BM2.out.cells
      go_wp2_with fail
      refine (HT1.out _ _ _ FL2.out (Nat.le_trans hB BE2.out.size) _ H3.out).mono ?_
      rintro e w3 ⟨rfl, hb⟩
      have BE3 := Lib.hid (Below.link BE2.out hb)
      have FL3 := Lib.hid (FL2.out.below hb (Nat.le_trans hB BE2.out.size))
      have BF3 := Lib.hid (BF2.out.below hb BF2.out.lt)
      have BM3 := Lib.hid (BM2.out.below hb BM2.out.lt)
      have ltf3 := BF3.out.lt
      have ltm3 := BM3.out.lt
      clear hb
      clear c0 c1 c2 c3 c4 c5 c6 m0 m1 m2 m3 m4 m5
      obtain ⟨c0, c1, c2, c3, c4, c5, c6⟩ := BF3.out.cells
      obtain ⟨m0, m1, m2, m3, m4, m5⟩ := BM3.out.cells
      go_wp2_with fail
      refine (HX.out _ _ FL3.out (Nat.le_trans hB BE3.out.size) _ H2.out).mono ?_
      rintro e w4 ⟨rfl, hb⟩
      have BE4 := Lib.hid (Below.link BE3.out hb)
      have FL4 := Lib.hid (FL3.out.below hb (Nat.le_trans hB BE3.out.size))
      have BF4 := Lib.hid (BF3.out.below hb BF3.out.lt)
      have BM4 := Lib.hid (BM3.out.below hb BM3.out.lt)
      have ltf4 := BF4.out.lt
      have ltm4 := BM4.out.lt
      clear hb
      clear c0 c1 c2 c3 c4 c5 c6 m0 m1 m2 m3 m4 m5
      obtain ⟨c0, c1, c2, c3, c4, c5, c6⟩ := BF4.out.cells
      obtain ⟨m0, m1, m2, m3, m4, m5⟩ := BM4.out.cells
      go_wp2_with fail
      refine ((HNM _).out).mono ?_
      rintro e w5 ⟨rfl, hb⟩
      have BE5 := Lib.hid (Below.link BE4.out hb)
      have FL5 := Lib.hid (FL4.out.below hb (Nat.le_trans hB BE4.out.size))
      have BF5 := Lib.hid (BF4.out.below hb BF4.out.lt)
      have BM5 := Lib.hid (BM4.out.below hb BM4.out.lt)
      have ltf5 := BF5.out.lt
      have ltm5 := BM5.out.lt
      clear hb
      clear c0 c1 c2 c3 c4 c5 c6 m0 m1 m2 m3 m4 m5
      obtain ⟨c0, c1, c2, c3, c4, c5, c6⟩ := BF5.out.cells
      obtain ⟨m0, m1, m2, m3, m4, m5⟩ := BM5.out.cells
      go_wp2
      go_ret
      exact ⟨ret_i HR8.out.symm, BE5.out⟩
    | true =>
      have HRD := Lib.hid (show R = de by rw [HR.out]; rfl)
      clear HR
      go_enter Try.func59, Try.ntmps59
      go_wp2_with fail
      refine (HT4.out _ _ _ FL0.out (Nat.le_trans hB BE0.out.size) _ H1.out).mono ?_
      rintro e w1 ⟨rfl, hb⟩
      have BE1 := Lib.hid (Below.link BE0.out hb)
      have FL1 := Lib.hid (FL0.out.below hb (Nat.le_trans hB BE0.out.size))
      have BF1 := Lib.hid (BF0.out.below hb BF0.out.lt)
      have BM1 := Lib.hid (BM0.out.below hb BM0.out.lt)
      have ltf1 := BF1.out.lt
      have ltm1 := BM1.out.lt
      clear hb
      obtain ⟨c0, c1, c2, c3, c4, c5, c6⟩ := BF1.out.cells
      obtain ⟨m0, m1, m2, m3, m4, m5⟩ := BM1.out.cells
      go_wp2_with fail
      refine (HT1.out _ _ _ FL1.out (Nat.le_trans hB BE1.out.size) _ H2.out).mono ?_
      rintro e w2 ⟨rfl, hb⟩
      have BE2 := Lib.hid (Below.link BE1.out hb)
      have FL2 := Lib.hid (FL1.out.below hb (Nat.le_trans hB BE1.out.size))
      have BF2 := Lib.hid (BF1.out.below hb BF1.out.lt)
      have BM2 := Lib.hid (BM1.out.below hb BM1.out.lt)
      have ltf2 := BF2.out.lt
      have ltm2 := BM2.out.lt
      clear hb
      clear c0 c1 c2 c3 c4 c5 c6 m0 m1 m2 m3 m4 m5
      obtain ⟨c0, c1, c2, c3, c4, c5, c6⟩ := BF2.out.cells
      obtain ⟨m0, m1, m2, m3, m4, m5⟩ := BM2.out.cells
      go_wp2_with fail
      refine (HT1.out _ _ _ FL2.out (Nat.le_trans hB BE2.out.size) _ H3.out).mono ?_
      rintro e w3 ⟨rfl, hb⟩
      have BE3 := Lib.hid (Below.link BE2.out hb)
      have FL3 := Lib.hid (FL2.out.below hb (Nat.le_trans hB BE2.out.size))
      have BF3 := Lib.hid (BF2.out.below hb BF2.out.lt)
      have BM3 := Lib.hid (BM2.out.below hb BM2.out.lt)
      have ltf3 := BF3.out.lt
      have ltm3 := BM3.out.lt
      clear hb
      clear c0 c1 c2 c3 c4 c5 c6 m0 m1 m2 m3 m4 m5
      obtain ⟨c0, c1, c2, c3, c4, c5, c6⟩ := BF3.out.cells
      obtain ⟨m0, m1, m2, m3, m4, m5⟩ := BM3.out.cells
      go_wp2_with fail
      refine (HX.out _ _ FL3.out (Nat.le_trans hB BE3.out.size) _ H2.out).mono ?_
      rintro e w4 ⟨rfl, hb⟩
      have BE4 := Lib.hid (Below.link BE3.out hb)
      have FL4 := Lib.hid (FL3.out.below hb (Nat.le_trans hB BE3.out.size))
      have BF4 := Lib.hid (BF3.out.below hb BF3.out.lt)
      have BM4 := Lib.hid (BM3.out.below hb BM3.out.lt)
      have ltf4 := BF4.out.lt
      have ltm4 := BM4.out.lt
      clear hb
      clear c0 c1 c2 c3 c4 c5 c6 m0 m1 m2 m3 m4 m5
      obtain ⟨c0, c1, c2, c3, c4, c5, c6⟩ := BF4.out.cells
      obtain ⟨m0, m1, m2, m3, m4, m5⟩ := BM4.out.cells
      go_wp2_with fail
      refine ((HNM _).out).mono ?_
      rintro e w5 ⟨rfl, hb⟩
      have BE5 := Lib.hid (Below.link BE4.out hb)
      have FL5 := Lib.hid (FL4.out.below hb (Nat.le_trans hB BE4.out.size))
      have BF5 := Lib.hid (BF4.out.below hb BF4.out.lt)
      have BM5 := Lib.hid (BM4.out.below hb BM4.out.lt)
      have ltf5 := BF5.out.lt
      have ltm5 := BM5.out.lt
      clear hb
      clear c0 c1 c2 c3 c4 c5 c6 m0 m1 m2 m3 m4 m5
      obtain ⟨c0, c1, c2, c3, c4, c5, c6⟩ := BF5.out.cells
      obtain ⟨m0, m1, m2, m3, m4, m5⟩ := BM5.out.cells
      clear c0 c1 c2 c3 c4 c5 c6 m0 m1 m2 m3 m4 m5
      obtain ⟨c0, c1, c2, c3, c4, c5, c6⟩ := BF5.out.cells
      obtain ⟨m0, m1, m2, m3, m4, m5⟩ := BM5.out.cells
      go_wp2
      refine wp_region_held_drew (S := (fun w' => FBox w.heap.size Ap cp Ai ci Af cf Am cm f w' ∧ CBox (w.heap.size + 1) 5 text 0 a b d w' ∧ w'.cell? ⟨w.heap.size, 0, none⟩ = some (.slice Ap f.pool.length cp) ∧ w'.cell? ⟨w.heap.size, 1, none⟩ = some (.int .i64 f.fl) ∧ w'.cell? ⟨w.heap.size, 2, none⟩ = some (.int .i64 f.this) ∧ w'.cell? ⟨w.heap.size, 3, none⟩ = some (.int .i64 f.super) ∧ w'.cell? ⟨w.heap.size, 4, none⟩ = some (.slice Ai f.ifs.length ci) ∧ w'.cell? ⟨w.heap.size, 5, none⟩ = some (.slice Af f.fds.length cf) ∧ w'.cell? ⟨w.heap.size, 6, none⟩ = some (.slice Am f.mts.length cm) ∧ w'.cell? ⟨w.heap.size + 1, 0, none⟩ = some (.int .i64 5) ∧ w'.cell? ⟨w.heap.size + 1, 5, none⟩ = some (.int .i64 d) ∧ Below w.heap.size w w')) (by kernel_rfl) (⟨BF5.out.drew, BM5.out, c0, c1, c2, c3, c4, c5, c6, m0, m5, BE5.out.drew⟩) (fun hHeld => ?_)
      refine wpAnyH_take (i := 0) (oi := ({ dst := some 162, op := Op.load 26 (Operand.tmp 2), type := 26, pos := "ref.go:69", after := #[], guard := none } : Oper)) (v := ?v1x0) rfl (by kernel_rfl) (by kernel_rfl) (by kernel_rfl) (fun _ _ _ h => h) (Or.inl ⟨by rfl, ?hy1x0⟩) hHeld ?_
      case hy1x0 => ((intro w hSw); (try dsimp only at hSw); go_simp; try with_reducible rfl)
      try simp only [Act.put, List.setIfInBounds_toArray, List.set_cons_zero, List.set_cons_succ]
      refine wpAnyH_take (i := 1) (oi := ({ dst := some 163, op := Op.fieldAddr 47 (Operand.tmp 3) 5, type := 0, pos := "ref.go:69", after := #[], guard := none } : Oper)) (v := ?v1x1) rfl (by kernel_rfl) (by kernel_rfl) (by kernel_rfl) (fun _ _ _ h => h) (Or.inl ⟨by rfl, ?hy1x1⟩) hHeld ?_
      case hy1x1 => ((intro w hSw); (try dsimp only at hSw); go_simp; try with_reducible rfl)
      try simp only [Act.put, List.setIfInBounds_toArray, List.set_cons_zero, List.set_cons_succ]
      refine wpAnyH_take (i := 2) (oi := ({ dst := some 164, op := Op.load 3 (Operand.tmp 163), type := 3, pos := "ref.go:69", after := #[{ on := 1, ground := Ground.data }], guard := none } : Oper)) (v := ?v1x2) rfl (by kernel_rfl) (by kernel_rfl) (by kernel_rfl) (fun _ _ _ h => h) (Or.inl ⟨by rfl, ?hy1x2⟩) hHeld ?_
      case hy1x2 => ((intro w hSw); (try dsimp only at hSw); go_simp; try with_reducible rfl)
      try simp only [Act.put, List.setIfInBounds_toArray, List.set_cons_zero, List.set_cons_succ]
      refine wpAnyH_take (i := 4) (oi := ({ dst := some 166, op := Op.fieldAddr 47 (Operand.tmp 3) 0, type := 0, pos := "ref.go:69", after := #[], guard := none } : Oper)) (v := ?v1x4) rfl (by kernel_rfl) (by kernel_rfl) (by kernel_rfl) (fun _ _ _ h => h) (Or.inl ⟨by rfl, ?hy1x4⟩) hHeld ?_
      case hy1x4 => ((intro w hSw); (try dsimp only at hSw); go_simp; try with_reducible rfl)
      try simp only [Act.put, List.setIfInBounds_toArray, List.set_cons_zero, List.set_cons_succ]
      refine wpAnyH_take (i := 5) (oi := ({ dst := some 167, op := Op.load 3 (Operand.tmp 166), type := 3, pos := "ref.go:69", after := #[{ on := 4, ground := Ground.data }], guard := none } : Oper)) (v := ?v1x5) rfl (by kernel_rfl) (by kernel_rfl) (by kernel_rfl) (fun _ _ _ h => h) (Or.inl ⟨by rfl, ?hy1x5⟩) hHeld ?_
      case hy1x5 => ((intro w hSw); (try dsimp only at hSw); go_simp; try with_reducible rfl)
      try simp only [Act.put, List.setIfInBounds_toArray, List.set_cons_zero, List.set_cons_succ]
      refine wpAnyH_take (i := 6) (oi := ({ dst := some 168, op := Op.binOp BinOp.eql 3 (Operand.tmp 167) (Operand.const (Value.int IntKind.i64 6)) 3, type := 4, pos := "ref.go:69", after := #[{ on := 5, ground := Ground.data }], guard := none } : Oper)) (v := ?v1x6) rfl (by kernel_rfl) (by kernel_rfl) (by kernel_rfl) (fun _ _ _ h => h) (Or.inl ⟨by rfl, ?hy1x6⟩) hHeld ?_
      case hy1x6 => ((intro w hSw); (try dsimp only at hSw); go_simp; try with_reducible rfl)
      try simp only [Act.put, List.setIfInBounds_toArray, List.set_cons_zero, List.set_cons_succ]
      refine wpAnyH_ready (rs := [3]) (by kernel_rfl) (by simp) ?_
      refine AllReadyH.cons (o := _) rfl (fun K hK => ?_) AllReadyH.nil
      go_simp
      go_at_call 32
      refine (HX.out _ w5.drew FL5.out.drew (Nat.le_trans hB BE5.out.size) _ H3.out).mono ?_
      rintro e wz0 ⟨rfl, hb⟩
      try go_wp2_with fail
      have hF := FBox.below hHeld.1 hb (FBox.lt hHeld.1)
      have hC := CBox.below hHeld.2.1 hb (CBox.lt hHeld.2.1)
      have hBE := Below.link hHeld.2.2.2.2.2.2.2.2.2.2.2 hb
      obtain ⟨c0', c1', c2', c3', c4', c5', c6'⟩ := hF.cells
      obtain ⟨m0', m1', m2', m3', m4', m5'⟩ := hC.cells
      refine hK.out _ _ ⟨hF, hC, c0', c1', c2', c3', c4', c5', c6', m0', m5', hBE⟩ (fun hHeld1 => ?_)
      clear hK K hHeld hF hC c0' c1' c2' c3' c4' c5' c6' m0' m1' m2' m3' m4' m5' hb hBE
      try simp only [Act.put, List.setIfInBounds_toArray, List.set_cons_zero, List.set_cons_succ]
      refine wpAnyH_ready (rs := [7]) (by kernel_rfl) (by simp) ?_
      refine AllReadyH.cons (o := _) rfl (fun K hK => ?_) AllReadyH.nil
      go_simp
      go_at_call 91
      refine ((HDS _).out).mono ?_
      rintro e wz1 ⟨rfl, hb⟩
      try go_wp2_with fail
      have hF := FBox.below hHeld1.1 hb (FBox.lt hHeld1.1)
      have hC := CBox.below hHeld1.2.1 hb (CBox.lt hHeld1.2.1)
      have hBE := Below.link hHeld1.2.2.2.2.2.2.2.2.2.2.2 hb
      obtain ⟨c0', c1', c2', c3', c4', c5', c6'⟩ := hF.cells
      obtain ⟨m0', m1', m2', m3', m4', m5'⟩ := hC.cells
      refine hK.out _ _ ⟨hF, hC, c0', c1', c2', c3', c4', c5', c6', m0', m5', hBE⟩ (fun hHeld2 => ?_)
      clear hK K hHeld1 hF hC c0' c1' c2' c3' c4' c5' c6' m0' m1' m2' m3' m4' m5' hb hBE
      try simp only [Act.put, List.setIfInBounds_toArray, List.set_cons_zero, List.set_cons_succ]
      refine wpAnyH_take (i := 8) (oi := ({ dst := some 4, op := Op.assign (Operand.tmp 169), type := 29, pos := "ref.go:69", after := #[{ on := 7, ground := Ground.data }, { on := 7, ground := Ground.chain }, { on := 0, ground := Ground.phase }, { on := 1, ground := Ground.phase }, { on := 2, ground := Ground.phase }, { on := 3, ground := Ground.phase }, { on := 4, ground := Ground.phase }, { on := 5, ground := Ground.phase }, { on := 6, ground := Ground.phase }, { on := 7, ground := Ground.phase }], guard := none } : Oper)) (v := ?v1x8) rfl (by kernel_rfl) (by kernel_rfl) (by kernel_rfl) (fun _ _ _ h => h) (Or.inl ⟨by rfl, ?hy1x8⟩) hHeld2 ?_
      case hy1x8 => ((intro w hSw); (try dsimp only at hSw); go_simp; try with_reducible rfl)
      try simp only [Act.put, List.setIfInBounds_toArray, List.set_cons_zero, List.set_cons_succ]
      refine wpAnyH_done (by kernel_rfl) ?_ _
      have BEZ := Lib.hid hHeld2.2.2.2.2.2.2.2.2.2.2.2
      clear hHeld2
      go_wp2
      go_ret
      exact ⟨ret_i HRD.out.symm, BEZ.out⟩
set_option maxRecDepth 1000000 in
set_option maxHeartbeats 6400000 in
theorem refConst_6 {B : Nat} (f : Fl) (v : Value) (w : World) (hf : FileAt B w v f) (hB : B ≤ w.heap.size) (ht : ∀ i, (textP f.pool i).size ≤ 1000000) (text : ByteArray) (hc : text.size ≤ 1000000) (n a b d : Int) :
    Calls Try.prog 59 #[v, .agg #[.int .i64 6, .string text, .int .i64 n, .int .i64 a, .int .i64 b, .int .i64 d]] w fun e w' => e = .returned (.int .i64 (constE f.pool ⟨6, text, n, a, b, d⟩)) ∧ Below w.heap.size w w' := by
  have HE := Lib.hid (show constE f.pool ⟨6, text, n, a, b, d⟩ = if rightTagB ⟨6, text, n, a, b, d⟩ = true then (if linksB f.pool ⟨6, text, n, a, b, d⟩ = true then textE f.pool ⟨6, text, n, a, b, d⟩ else 7) else 7 from rfl)
  have HTX := Lib.hid ht
  have HT1 := Lib.hid (fun r V W hW hWB i h => refTagged_at (B := B) r f V W hW hWB i 1 h)
  have HT4 := Lib.hid (fun r V W hW hWB i h => refTagged_at (B := B) r f V W hW hWB i 4 h)
  have HX := Lib.hid (fun V W hW hWB i h => reftext_any (B := B) f V W hW hWB i h)
  have HEN := fun W => Lib.hid (refEncode_any text W hc)
  have HRU := fun W => Lib.hid (refRunes_any text W hc)
  generalize constE f.pool ⟨6, text, n, a, b, d⟩ = R at *
  obtain ⟨Ap, cp, Ai, ci, Af, cf, Am, cm, rfl, hi⟩ := id hf
  have FL0 := Lib.hid ((hf.alloc hB (.cells #[.slice Ap f.pool.length cp, .int .i64 f.fl, .int .i64 f.this, .int .i64 f.super, .slice Ai f.ifs.length ci, .slice Af f.fds.length cf, .slice Am f.mts.length cm] 26)).alloc (le_alloc hB _) (.cells #[.int .i64 6, .string text, .int .i64 n, .int .i64 a, .int .i64 b, .int .i64 d] 47))
  have BE0 := Lib.hid (((Below.refl w.heap.size w).alloc (Nat.le_refl _) (.cells #[.slice Ap f.pool.length cp, .int .i64 f.fl, .int .i64 f.this, .int .i64 f.super, .slice Ai f.ifs.length ci, .slice Af f.fds.length cf, .slice Am f.mts.length cm] 26)).alloc (le_alloc (Nat.le_refl _) _) (.cells #[.int .i64 6, .string text, .int .i64 n, .int .i64 a, .int .i64 b, .int .i64 d] 47))
  have BF0 := Lib.hid ((FBox.new Ap cp Ai ci Af cf Am cm f w).alloc (.cells #[.int .i64 6, .string text, .int .i64 n, .int .i64 a, .int .i64 b, .int .i64 d] 47))
  have BM0 := Lib.hid (show CBox (w.heap.size + 1) 6 text n a b d _ from heap_new2 w (.cells #[.slice Ap f.pool.length cp, .int .i64 f.fl, .int .i64 f.this, .int .i64 f.super, .slice Ai f.ifs.length ci, .slice Af f.fds.length cf, .slice Am f.mts.length cm] 26) (.cells #[.int .i64 6, .string text, .int .i64 n, .int .i64 a, .int .i64 b, .int .i64 d] 47))
  clear hi hf ht hc
  rcases (str_nil (s := text)).symm with ⟨hx, e1, e2⟩ | ⟨hx, e1, e2⟩
  · have hx0 : ¬ text.size = 0 := by omega
    have HR := Lib.hid (show R = 7 by rw [HE.out]; simp [rightTagB, linksB, linkB, tag1, tag2, hx0])
    clear HE
    go_enter Try.func59, Try.ntmps59
    go_wp2
    go_ret
    exact ⟨ret_i HR.out.symm, BE0.out⟩
  rcases (show (n ≠ 0 ∧ (n == 0) = false ∧ (n != 0) = true) ∨ (n = 0) by
    by_cases h : n = 0
    · exact .inr h
    · exact .inl ⟨h, by simpa using h, by simpa using h⟩) with ⟨hn, gn, gn'⟩ | hn
  · have HR := Lib.hid (show R = 7 by rw [HE.out]; simp [rightTagB, linksB, linkB, tag1, tag2, hx, hn])
    clear HE
    go_enter Try.func59, Try.ntmps59
    go_wp2
    go_ret
    exact ⟨ret_i HR.out.symm, BE0.out⟩
  subst hn
  have HR := Lib.hid (show R = if tagged f.pool a 4 && (tagged f.pool b 1 && tagged f.pool d 1) then (if nameL (L (textP f.pool b)) = true then descE true (textP f.pool d) else 8) else 7 by
    have h1 := pairE_desc f.pool b d true
    rw [if_pos rfl] at h1
    rw [← h1, HE.out]
    simp [rightTagB, linksB, linkB, tag1, tag2, textE, hx])
  clear HE
  obtain ⟨t1, ht1⟩ : ∃ q, tagged f.pool a 4 = q := ⟨_, rfl⟩
  obtain ⟨t2, ht2⟩ : ∃ q, tagged f.pool b 1 = q := ⟨_, rfl⟩
  obtain ⟨t3, ht3⟩ : ∃ q, tagged f.pool d 1 = q := ⟨_, rfl⟩
  rw [ht1, ht2, ht3] at HR
  have H1 := Lib.hid ht1
  have H2 := Lib.hid ht2
  have H3 := Lib.hid ht3
  clear ht1 ht2 ht3
  have HNM := fun W => Lib.hid (refName_any (textP f.pool b) W (HTX.out _))
  have HDS := fun W => Lib.hid (described_any (textP f.pool d) true W (HTX.out _))
  obtain ⟨nb, hnb⟩ : ∃ q, nameL (L (textP f.pool b)) = q := ⟨_, rfl⟩
  obtain ⟨de, hde⟩ : ∃ q, descE true (textP f.pool d) = q := ⟨_, rfl⟩
  rw [hnb, hde] at HR
  rw [hnb] at HNM
  rw [hde] at HDS
  clear hnb hde
  rcases (Classical.em ((t1 && (t2 && t3)) = true)).symm with hall | hall
  · have hall2 : (t1 && (t2 && t3)) = false := by simpa using hall
    have HR7 := Lib.hid (show R = 7 by rw [HR.out, hall2]; rfl)
    clear HR hall
    cases t1 <;> cases t2 <;> cases t3 <;> first | (exact absurd hall2 (by decide)) | skip
    all_goals
      clear hall2
      go_enter Try.func59, Try.ntmps59
      go_wp2_with fail
      refine (HT4.out _ _ _ FL0.out (Nat.le_trans hB BE0.out.size) _ H1.out).mono ?_
      rintro e w1 ⟨rfl, hb⟩
      have BE1 := Lib.hid (Below.link BE0.out hb)
      have FL1 := Lib.hid (FL0.out.below hb (Nat.le_trans hB BE0.out.size))
      have BF1 := Lib.hid (BF0.out.below hb BF0.out.lt)
      have BM1 := Lib.hid (BM0.out.below hb BM0.out.lt)
      have ltf1 := BF1.out.lt
      have ltm1 := BM1.out.lt
      clear hb
      obtain ⟨c0, c1, c2, c3, c4, c5, c6⟩ := BF1.out.cells
      obtain ⟨m0, m1, m2, m3, m4, m5⟩ := BM1.out.cells
      go_wp2_with fail
      refine (HT1.out _ _ _ FL1.out (Nat.le_trans hB BE1.out.size) _ H2.out).mono ?_
      rintro e w2 ⟨rfl, hb⟩
      have BE2 := Lib.hid (Below.link BE1.out hb)
      have FL2 := Lib.hid (FL1.out.below hb (Nat.le_trans hB BE1.out.size))
      have BF2 := Lib.hid (BF1.out.below hb BF1.out.lt)
      have BM2 := Lib.hid (BM1.out.below hb BM1.out.lt)
      have ltf2 := BF2.out.lt
      have ltm2 := BM2.out.lt
      clear hb
      clear c0 c1 c2 c3 c4 c5 c6 m0 m1 m2 m3 m4 m5
      obtain ⟨c0, c1, c2, c3, c4, c5, c6⟩ := BF2.out.cells
      obtain ⟨m0, m1, m2, m3, m4, m5⟩ := BM2.out.cells
      go_wp2_with fail
      refine (HT1.out _ _ _ FL2.out (Nat.le_trans hB BE2.out.size) _ H3.out).mono ?_
      rintro e w3 ⟨rfl, hb⟩
      have BE3 := Lib.hid (Below.link BE2.out hb)
      have FL3 := Lib.hid (FL2.out.below hb (Nat.le_trans hB BE2.out.size))
      have BF3 := Lib.hid (BF2.out.below hb BF2.out.lt)
      have BM3 := Lib.hid (BM2.out.below hb BM2.out.lt)
      have ltf3 := BF3.out.lt
      have ltm3 := BM3.out.lt
      clear hb
      clear c0 c1 c2 c3 c4 c5 c6 m0 m1 m2 m3 m4 m5
      obtain ⟨c0, c1, c2, c3, c4, c5, c6⟩ := BF3.out.cells
      obtain ⟨m0, m1, m2, m3, m4, m5⟩ := BM3.out.cells
      go_wp2
      go_ret
      exact ⟨ret_i HR7.out.symm, BE3.out⟩
  · simp only [Bool.and_eq_true] at hall
    obtain ⟨rfl, rfl, rfl⟩ := hall
    cases nb with
    | false =>
      have HR8 := Lib.hid (show R = 8 by rw [HR.out]; rfl)
      clear HR
      go_enter Try.func59, Try.ntmps59
      go_wp2_with fail
      refine (HT4.out _ _ _ FL0.out (Nat.le_trans hB BE0.out.size) _ H1.out).mono ?_
      rintro e w1 ⟨rfl, hb⟩
      have BE1 := Lib.hid (Below.link BE0.out hb)
      have FL1 := Lib.hid (FL0.out.below hb (Nat.le_trans hB BE0.out.size))
      have BF1 := Lib.hid (BF0.out.below hb BF0.out.lt)
      have BM1 := Lib.hid (BM0.out.below hb BM0.out.lt)
      have ltf1 := BF1.out.lt
      have ltm1 := BM1.out.lt
      clear hb
      obtain ⟨c0, c1, c2, c3, c4, c5, c6⟩ := BF1.out.cells
      obtain ⟨m0, m1, m2, m3, m4, m5⟩ := BM1.out.cells
      go_wp2_with fail
      refine (HT1.out _ _ _ FL1.out (Nat.le_trans hB BE1.out.size) _ H2.out).mono ?_
      rintro e w2 ⟨rfl, hb⟩
      have BE2 := Lib.hid (Below.link BE1.out hb)
      have FL2 := Lib.hid (FL1.out.below hb (Nat.le_trans hB BE1.out.size))
      have BF2 := Lib.hid (BF1.out.below hb BF1.out.lt)
      have BM2 := Lib.hid (BM1.out.below hb BM1.out.lt)
      have ltf2 := BF2.out.lt
      have ltm2 := BM2.out.lt
      clear hb
      clear c0 c1 c2 c3 c4 c5 c6 m0 m1 m2 m3 m4 m5
      obtain ⟨c0, c1, c2, c3, c4, c5, c6⟩ := BF2.out.cells
      obtain ⟨m0, m1, m2, m3, m4, m5⟩ := BM2.out.cells
      go_wp2_with fail
      refine (HT1.out _ _ _ FL2.out (Nat.le_trans hB BE2.out.size) _ H3.out).mono ?_
      rintro e w3 ⟨rfl, hb⟩
      have BE3 := Lib.hid (Below.link BE2.out hb)
      have FL3 := Lib.hid (FL2.out.below hb (Nat.le_trans hB BE2.out.size))
      have BF3 := Lib.hid (BF2.out.below hb BF2.out.lt)
      have BM3 := Lib.hid (BM2.out.below hb BM2.out.lt)
      have ltf3 := BF3.out.lt
      have ltm3 := BM3.out.lt
      clear hb
      clear c0 c1 c2 c3 c4 c5 c6 m0 m1 m2 m3 m4 m5
      obtain ⟨c0, c1, c2, c3, c4, c5, c6⟩ := BF3.out.cells
      obtain ⟨m0, m1, m2, m3, m4, m5⟩ := BM3.out.cells
      go_wp2_with fail
      refine (HX.out _ _ FL3.out (Nat.le_trans hB BE3.out.size) _ H2.out).mono ?_
      rintro e w4 ⟨rfl, hb⟩
      have BE4 := Lib.hid (Below.link BE3.out hb)
      have FL4 := Lib.hid (FL3.out.below hb (Nat.le_trans hB BE3.out.size))
      have BF4 := Lib.hid (BF3.out.below hb BF3.out.lt)
      have BM4 := Lib.hid (BM3.out.below hb BM3.out.lt)
      have ltf4 := BF4.out.lt
      have ltm4 := BM4.out.lt
      clear hb
      clear c0 c1 c2 c3 c4 c5 c6 m0 m1 m2 m3 m4 m5
      obtain ⟨c0, c1, c2, c3, c4, c5, c6⟩ := BF4.out.cells
      obtain ⟨m0, m1, m2, m3, m4, m5⟩ := BM4.out.cells
      go_wp2_with fail
      refine ((HNM _).out).mono ?_
      rintro e w5 ⟨rfl, hb⟩
      have BE5 := Lib.hid (Below.link BE4.out hb)
      have FL5 := Lib.hid (FL4.out.below hb (Nat.le_trans hB BE4.out.size))
      have BF5 := Lib.hid (BF4.out.below hb BF4.out.lt)
      have BM5 := Lib.hid (BM4.out.below hb BM4.out.lt)
      have ltf5 := BF5.out.lt
      have ltm5 := BM5.out.lt
      clear hb
      clear c0 c1 c2 c3 c4 c5 c6 m0 m1 m2 m3 m4 m5
      obtain ⟨c0, c1, c2, c3, c4, c5, c6⟩ := BF5.out.cells
      obtain ⟨m0, m1, m2, m3, m4, m5⟩ := BM5.out.cells
      go_wp2
      go_ret
      exact ⟨ret_i HR8.out.symm, BE5.out⟩
    | true =>
      have HRD := Lib.hid (show R = de by rw [HR.out]; rfl)
      clear HR
      go_enter Try.func59, Try.ntmps59
      go_wp2_with fail
      refine (HT4.out _ _ _ FL0.out (Nat.le_trans hB BE0.out.size) _ H1.out).mono ?_
      rintro e w1 ⟨rfl, hb⟩
      have BE1 := Lib.hid (Below.link BE0.out hb)
      have FL1 := Lib.hid (FL0.out.below hb (Nat.le_trans hB BE0.out.size))
      have BF1 := Lib.hid (BF0.out.below hb BF0.out.lt)
      have BM1 := Lib.hid (BM0.out.below hb BM0.out.lt)
      have ltf1 := BF1.out.lt
      have ltm1 := BM1.out.lt
      clear hb
      obtain ⟨c0, c1, c2, c3, c4, c5, c6⟩ := BF1.out.cells
      obtain ⟨m0, m1, m2, m3, m4, m5⟩ := BM1.out.cells
      go_wp2_with fail
      refine (HT1.out _ _ _ FL1.out (Nat.le_trans hB BE1.out.size) _ H2.out).mono ?_
      rintro e w2 ⟨rfl, hb⟩
      have BE2 := Lib.hid (Below.link BE1.out hb)
      have FL2 := Lib.hid (FL1.out.below hb (Nat.le_trans hB BE1.out.size))
      have BF2 := Lib.hid (BF1.out.below hb BF1.out.lt)
      have BM2 := Lib.hid (BM1.out.below hb BM1.out.lt)
      have ltf2 := BF2.out.lt
      have ltm2 := BM2.out.lt
      clear hb
      clear c0 c1 c2 c3 c4 c5 c6 m0 m1 m2 m3 m4 m5
      obtain ⟨c0, c1, c2, c3, c4, c5, c6⟩ := BF2.out.cells
      obtain ⟨m0, m1, m2, m3, m4, m5⟩ := BM2.out.cells
      go_wp2_with fail
      refine (HT1.out _ _ _ FL2.out (Nat.le_trans hB BE2.out.size) _ H3.out).mono ?_
      rintro e w3 ⟨rfl, hb⟩
      have BE3 := Lib.hid (Below.link BE2.out hb)
      have FL3 := Lib.hid (FL2.out.below hb (Nat.le_trans hB BE2.out.size))
      have BF3 := Lib.hid (BF2.out.below hb BF2.out.lt)
      have BM3 := Lib.hid (BM2.out.below hb BM2.out.lt)
      have ltf3 := BF3.out.lt
      have ltm3 := BM3.out.lt
      clear hb
      clear c0 c1 c2 c3 c4 c5 c6 m0 m1 m2 m3 m4 m5
      obtain ⟨c0, c1, c2, c3, c4, c5, c6⟩ := BF3.out.cells
      obtain ⟨m0, m1, m2, m3, m4, m5⟩ := BM3.out.cells
      go_wp2_with fail
      refine (HX.out _ _ FL3.out (Nat.le_trans hB BE3.out.size) _ H2.out).mono ?_
      rintro e w4 ⟨rfl, hb⟩
      have BE4 := Lib.hid (Below.link BE3.out hb)
      have FL4 := Lib.hid (FL3.out.below hb (Nat.le_trans hB BE3.out.size))
      have BF4 := Lib.hid (BF3.out.below hb BF3.out.lt)
      have BM4 := Lib.hid (BM3.out.below hb BM3.out.lt)
      have ltf4 := BF4.out.lt
      have ltm4 := BM4.out.lt
      clear hb
      clear c0 c1 c2 c3 c4 c5 c6 m0 m1 m2 m3 m4 m5
      obtain ⟨c0, c1, c2, c3, c4, c5, c6⟩ := BF4.out.cells
      obtain ⟨m0, m1, m2, m3, m4, m5⟩ := BM4.out.cells
      go_wp2_with fail
      refine ((HNM _).out).mono ?_
      rintro e w5 ⟨rfl, hb⟩
      have BE5 := Lib.hid (Below.link BE4.out hb)
      have FL5 := Lib.hid (FL4.out.below hb (Nat.le_trans hB BE4.out.size))
      have BF5 := Lib.hid (BF4.out.below hb BF4.out.lt)
      have BM5 := Lib.hid (BM4.out.below hb BM4.out.lt)
      have ltf5 := BF5.out.lt
      have ltm5 := BM5.out.lt
      clear hb
      clear c0 c1 c2 c3 c4 c5 c6 m0 m1 m2 m3 m4 m5
      obtain ⟨c0, c1, c2, c3, c4, c5, c6⟩ := BF5.out.cells
      obtain ⟨m0, m1, m2, m3, m4, m5⟩ := BM5.out.cells
      clear c0 c1 c2 c3 c4 c5 c6 m0 m1 m2 m3 m4 m5
      obtain ⟨c0, c1, c2, c3, c4, c5, c6⟩ := BF5.out.cells
      obtain ⟨m0, m1, m2, m3, m4, m5⟩ := BM5.out.cells
      go_wp2
      refine wp_region_held_drew (S := (fun w' => FBox w.heap.size Ap cp Ai ci Af cf Am cm f w' ∧ CBox (w.heap.size + 1) 6 text 0 a b d w' ∧ w'.cell? ⟨w.heap.size, 0, none⟩ = some (.slice Ap f.pool.length cp) ∧ w'.cell? ⟨w.heap.size, 1, none⟩ = some (.int .i64 f.fl) ∧ w'.cell? ⟨w.heap.size, 2, none⟩ = some (.int .i64 f.this) ∧ w'.cell? ⟨w.heap.size, 3, none⟩ = some (.int .i64 f.super) ∧ w'.cell? ⟨w.heap.size, 4, none⟩ = some (.slice Ai f.ifs.length ci) ∧ w'.cell? ⟨w.heap.size, 5, none⟩ = some (.slice Af f.fds.length cf) ∧ w'.cell? ⟨w.heap.size, 6, none⟩ = some (.slice Am f.mts.length cm) ∧ w'.cell? ⟨w.heap.size + 1, 0, none⟩ = some (.int .i64 6) ∧ w'.cell? ⟨w.heap.size + 1, 5, none⟩ = some (.int .i64 d) ∧ Below w.heap.size w w')) (by kernel_rfl) (⟨BF5.out.drew, BM5.out, c0, c1, c2, c3, c4, c5, c6, m0, m5, BE5.out.drew⟩) (fun hHeld => ?_)
      refine wpAnyH_take (i := 0) (oi := ({ dst := some 162, op := Op.load 26 (Operand.tmp 2), type := 26, pos := "ref.go:69", after := #[], guard := none } : Oper)) (v := ?v2x0) rfl (by kernel_rfl) (by kernel_rfl) (by kernel_rfl) (fun _ _ _ h => h) (Or.inl ⟨by rfl, ?hy2x0⟩) hHeld ?_
      case hy2x0 => ((intro w hSw); (try dsimp only at hSw); go_simp; try with_reducible rfl)
      try simp only [Act.put, List.setIfInBounds_toArray, List.set_cons_zero, List.set_cons_succ]
      refine wpAnyH_take (i := 1) (oi := ({ dst := some 163, op := Op.fieldAddr 47 (Operand.tmp 3) 5, type := 0, pos := "ref.go:69", after := #[], guard := none } : Oper)) (v := ?v2x1) rfl (by kernel_rfl) (by kernel_rfl) (by kernel_rfl) (fun _ _ _ h => h) (Or.inl ⟨by rfl, ?hy2x1⟩) hHeld ?_
      case hy2x1 => ((intro w hSw); (try dsimp only at hSw); go_simp; try with_reducible rfl)
      try simp only [Act.put, List.setIfInBounds_toArray, List.set_cons_zero, List.set_cons_succ]
      refine wpAnyH_take (i := 2) (oi := ({ dst := some 164, op := Op.load 3 (Operand.tmp 163), type := 3, pos := "ref.go:69", after := #[{ on := 1, ground := Ground.data }], guard := none } : Oper)) (v := ?v2x2) rfl (by kernel_rfl) (by kernel_rfl) (by kernel_rfl) (fun _ _ _ h => h) (Or.inl ⟨by rfl, ?hy2x2⟩) hHeld ?_
      case hy2x2 => ((intro w hSw); (try dsimp only at hSw); go_simp; try with_reducible rfl)
      try simp only [Act.put, List.setIfInBounds_toArray, List.set_cons_zero, List.set_cons_succ]
      refine wpAnyH_take (i := 4) (oi := ({ dst := some 166, op := Op.fieldAddr 47 (Operand.tmp 3) 0, type := 0, pos := "ref.go:69", after := #[], guard := none } : Oper)) (v := ?v2x4) rfl (by kernel_rfl) (by kernel_rfl) (by kernel_rfl) (fun _ _ _ h => h) (Or.inl ⟨by rfl, ?hy2x4⟩) hHeld ?_
      case hy2x4 => ((intro w hSw); (try dsimp only at hSw); go_simp; try with_reducible rfl)
      try simp only [Act.put, List.setIfInBounds_toArray, List.set_cons_zero, List.set_cons_succ]
      refine wpAnyH_take (i := 5) (oi := ({ dst := some 167, op := Op.load 3 (Operand.tmp 166), type := 3, pos := "ref.go:69", after := #[{ on := 4, ground := Ground.data }], guard := none } : Oper)) (v := ?v2x5) rfl (by kernel_rfl) (by kernel_rfl) (by kernel_rfl) (fun _ _ _ h => h) (Or.inl ⟨by rfl, ?hy2x5⟩) hHeld ?_
      case hy2x5 => ((intro w hSw); (try dsimp only at hSw); go_simp; try with_reducible rfl)
      try simp only [Act.put, List.setIfInBounds_toArray, List.set_cons_zero, List.set_cons_succ]
      refine wpAnyH_take (i := 6) (oi := ({ dst := some 168, op := Op.binOp BinOp.eql 3 (Operand.tmp 167) (Operand.const (Value.int IntKind.i64 6)) 3, type := 4, pos := "ref.go:69", after := #[{ on := 5, ground := Ground.data }], guard := none } : Oper)) (v := ?v2x6) rfl (by kernel_rfl) (by kernel_rfl) (by kernel_rfl) (fun _ _ _ h => h) (Or.inl ⟨by rfl, ?hy2x6⟩) hHeld ?_
      case hy2x6 => ((intro w hSw); (try dsimp only at hSw); go_simp; try with_reducible rfl)
      try simp only [Act.put, List.setIfInBounds_toArray, List.set_cons_zero, List.set_cons_succ]
      refine wpAnyH_ready (rs := [3]) (by kernel_rfl) (by simp) ?_
      refine AllReadyH.cons (o := _) rfl (fun K hK => ?_) AllReadyH.nil
      go_simp
      go_at_call 32
      refine (HX.out _ w5.drew FL5.out.drew (Nat.le_trans hB BE5.out.size) _ H3.out).mono ?_
      rintro e wz0 ⟨rfl, hb⟩
      try go_wp2_with fail
      have hF := FBox.below hHeld.1 hb (FBox.lt hHeld.1)
      have hC := CBox.below hHeld.2.1 hb (CBox.lt hHeld.2.1)
      have hBE := Below.link hHeld.2.2.2.2.2.2.2.2.2.2.2 hb
      obtain ⟨c0', c1', c2', c3', c4', c5', c6'⟩ := hF.cells
      obtain ⟨m0', m1', m2', m3', m4', m5'⟩ := hC.cells
      refine hK.out _ _ ⟨hF, hC, c0', c1', c2', c3', c4', c5', c6', m0', m5', hBE⟩ (fun hHeld1 => ?_)
      clear hK K hHeld hF hC c0' c1' c2' c3' c4' c5' c6' m0' m1' m2' m3' m4' m5' hb hBE
      try simp only [Act.put, List.setIfInBounds_toArray, List.set_cons_zero, List.set_cons_succ]
      refine wpAnyH_ready (rs := [7]) (by kernel_rfl) (by simp) ?_
      refine AllReadyH.cons (o := _) rfl (fun K hK => ?_) AllReadyH.nil
      go_simp
      go_at_call 91
      refine ((HDS _).out).mono ?_
      rintro e wz1 ⟨rfl, hb⟩
      try go_wp2_with fail
      have hF := FBox.below hHeld1.1 hb (FBox.lt hHeld1.1)
      have hC := CBox.below hHeld1.2.1 hb (CBox.lt hHeld1.2.1)
      have hBE := Below.link hHeld1.2.2.2.2.2.2.2.2.2.2.2 hb
      obtain ⟨c0', c1', c2', c3', c4', c5', c6'⟩ := hF.cells
      obtain ⟨m0', m1', m2', m3', m4', m5'⟩ := hC.cells
      refine hK.out _ _ ⟨hF, hC, c0', c1', c2', c3', c4', c5', c6', m0', m5', hBE⟩ (fun hHeld2 => ?_)
      clear hK K hHeld1 hF hC c0' c1' c2' c3' c4' c5' c6' m0' m1' m2' m3' m4' m5' hb hBE
      try simp only [Act.put, List.setIfInBounds_toArray, List.set_cons_zero, List.set_cons_succ]
      refine wpAnyH_take (i := 8) (oi := ({ dst := some 4, op := Op.assign (Operand.tmp 169), type := 29, pos := "ref.go:69", after := #[{ on := 7, ground := Ground.data }, { on := 7, ground := Ground.chain }, { on := 0, ground := Ground.phase }, { on := 1, ground := Ground.phase }, { on := 2, ground := Ground.phase }, { on := 3, ground := Ground.phase }, { on := 4, ground := Ground.phase }, { on := 5, ground := Ground.phase }, { on := 6, ground := Ground.phase }, { on := 7, ground := Ground.phase }], guard := none } : Oper)) (v := ?v2x8) rfl (by kernel_rfl) (by kernel_rfl) (by kernel_rfl) (fun _ _ _ h => h) (Or.inl ⟨by rfl, ?hy2x8⟩) hHeld2 ?_
      case hy2x8 => ((intro w hSw); (try dsimp only at hSw); go_simp; try with_reducible rfl)
      try simp only [Act.put, List.setIfInBounds_toArray, List.set_cons_zero, List.set_cons_succ]
      refine wpAnyH_done (by kernel_rfl) ?_ _
      have BEZ := Lib.hid hHeld2.2.2.2.2.2.2.2.2.2.2.2
      clear hHeld2
      go_wp2
      go_ret
      exact ⟨ret_i HRD.out.symm, BEZ.out⟩
set_option maxRecDepth 1000000 in
set_option maxHeartbeats 6400000 in
theorem refConst_out {B : Nat} (f : Fl) (v : Value) (w : World) (hf : FileAt B w v f) (hB : B ≤ w.heap.size) (ht : ∀ i, (textP f.pool i).size ≤ 1000000) (t : Int) (hlt : t < 1 ∨ 7 < t) (text : ByteArray) (hc : text.size ≤ 1000000) (n a b d : Int) :
    Calls Try.prog 59 #[v, .agg #[.int .i64 t, .string text, .int .i64 n, .int .i64 a, .int .i64 b, .int .i64 d]] w fun e w' => e = .returned (.int .i64 (constE f.pool ⟨t, text, n, a, b, d⟩)) ∧ Below w.heap.size w w' := by
  have HE := Lib.hid (show constE f.pool ⟨t, text, n, a, b, d⟩ = if rightTagB ⟨t, text, n, a, b, d⟩ = true then (if linksB f.pool ⟨t, text, n, a, b, d⟩ = true then textE f.pool ⟨t, text, n, a, b, d⟩ else 7) else 7 from rfl)
  have HTX := Lib.hid ht
  have HT1 := Lib.hid (fun r V W hW hWB i h => refTagged_at (B := B) r f V W hW hWB i 1 h)
  have HT4 := Lib.hid (fun r V W hW hWB i h => refTagged_at (B := B) r f V W hW hWB i 4 h)
  have HX := Lib.hid (fun V W hW hWB i h => reftext_any (B := B) f V W hW hWB i h)
  have HEN := fun W => Lib.hid (refEncode_any text W hc)
  have HRU := fun W => Lib.hid (refRunes_any text W hc)
  generalize constE f.pool ⟨t, text, n, a, b, d⟩ = R at *
  obtain ⟨Ap, cp, Ai, ci, Af, cf, Am, cm, rfl, hi⟩ := id hf
  have FL0 := Lib.hid ((hf.alloc hB (.cells #[.slice Ap f.pool.length cp, .int .i64 f.fl, .int .i64 f.this, .int .i64 f.super, .slice Ai f.ifs.length ci, .slice Af f.fds.length cf, .slice Am f.mts.length cm] 26)).alloc (le_alloc hB _) (.cells #[.int .i64 t, .string text, .int .i64 n, .int .i64 a, .int .i64 b, .int .i64 d] 47))
  have BE0 := Lib.hid (((Below.refl w.heap.size w).alloc (Nat.le_refl _) (.cells #[.slice Ap f.pool.length cp, .int .i64 f.fl, .int .i64 f.this, .int .i64 f.super, .slice Ai f.ifs.length ci, .slice Af f.fds.length cf, .slice Am f.mts.length cm] 26)).alloc (le_alloc (Nat.le_refl _) _) (.cells #[.int .i64 t, .string text, .int .i64 n, .int .i64 a, .int .i64 b, .int .i64 d] 47))
  have BF0 := Lib.hid ((FBox.new Ap cp Ai ci Af cf Am cm f w).alloc (.cells #[.int .i64 t, .string text, .int .i64 n, .int .i64 a, .int .i64 b, .int .i64 d] 47))
  have BM0 := Lib.hid (show CBox (w.heap.size + 1) t text n a b d _ from heap_new2 w (.cells #[.slice Ap f.pool.length cp, .int .i64 f.fl, .int .i64 f.this, .int .i64 f.super, .slice Ai f.ifs.length ci, .slice Af f.fds.length cf, .slice Am f.mts.length cm] 26) (.cells #[.int .i64 t, .string text, .int .i64 n, .int .i64 a, .int .i64 b, .int .i64 d] 47))
  clear hi hf ht hc
  have HR := Lib.hid (show R = 7 by rw [HE.out, if_neg]; unfold rightTagB; simp only [Bool.and_eq_true, decide_eq_true_eq]; omega)
  clear HE
  rcases (show t < 1 ∨ (1 ≤ t ∧ 7 < t) by omega) with h | ⟨h, h'⟩
  all_goals
    clear hlt
    go_enter Try.func59, Try.ntmps59
    go_wp2
    go_ret
    exact ⟨ret_i HR.out.symm, BE0.out⟩
theorem refConst_any {B : Nat} (f : Fl) (v : Value) (w : World) (hf : FileAt B w v f) (hB : B ≤ w.heap.size) (ht : ∀ i, (textP f.pool i).size ≤ 1000000) (c : Cn) (hc : c.text.size ≤ 1000000) :
    Calls Try.prog 59 #[v, constV c] w fun e w' => e = .returned (.int .i64 (constE f.pool c)) ∧ Below w.heap.size w w' := by
  obtain ⟨t, text, n, a, b, d⟩ := c
  unfold constV
  simp only at hc ⊢
  rcases (show t = 1 ∨ t = 2 ∨ t = 3 ∨ t = 4 ∨ t = 5 ∨ t = 6 ∨ t = 7 ∨ (t < 1 ∨ 7 < t) by omega) with rfl | rfl | rfl | rfl | rfl | rfl | rfl | h
  · exact refConst_1 f v w hf hB ht text hc n a b d
  · exact refConst_2 f v w hf hB ht text hc n a b d
  · exact refConst_3 f v w hf hB ht text hc n a b d
  · exact refConst_4 f v w hf hB ht text hc n a b d
  · exact refConst_5 f v w hf hB ht text hc n a b d
  · exact refConst_6 f v w hf hB ht text hc n a b d
  · exact refConst_7 f v w hf hB ht text hc n a b d
  · exact refConst_out f v w hf hB ht t h text hc n a b d
end Go.Proofs.Ytcgloepfnnfioaa
