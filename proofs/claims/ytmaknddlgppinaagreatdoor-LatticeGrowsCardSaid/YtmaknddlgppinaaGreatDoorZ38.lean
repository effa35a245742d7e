/-
  CUT and joined from the texts of this seat: R3
-/
import Derived.Test.YtmaknddlgppinaaGreatDoorZ37
set_option linter.unusedVariables false
set_option linter.unusedSimpArgs false
namespace Go.Proofs.YtmaknddlgppinaaGreatDoor
open Go.RowKit
def CBox (q : Nat) (t : Int) (text : ByteArray) (n a b d : Int) (w : World) : Prop := w.heap[q]? = some (.cells #[.int .i64 t, .string text, .int .i64 n, .int .i64 a, .int .i64 b, .int .i64 d] 138 (0, 0))
theorem CBox.lt {q : Nat} {t : Int} {text : ByteArray} {n a b d : Int} {w : World} (h : CBox q t text n a b d w) : q < w.heap.size := lt_of_block h
theorem CBox.alloc {q : Nat} {t : Int} {text : ByteArray} {n a b d : Int} {w : World} (h : CBox q t text n a b d w) (o : Obj) : CBox q t text n a b d (w.alloc o) := heap_alloc_lt h
theorem CBox.below {q : Nat} {t : Int} {text : ByteArray} {n a b d : Int} {w w' : World} {B : Nat} (h : CBox q t text n a b d w) (hb : Below B w w') (hB : q < B) : CBox q t text n a b d w' := Below.keep hb hB h
theorem CBox.cells {q : Nat} {t : Int} {text : ByteArray} {n a b d : Int} {w : World} (h : CBox q t text n a b d w) : w.cell? ⟨q, 0, none⟩ = some (.int .i64 t) ∧ w.cell? ⟨q, 1, none⟩ = some (.string text) ∧ w.cell? ⟨q, 2, none⟩ = some (.int .i64 n) ∧ w.cell? ⟨q, 3, none⟩ = some (.int .i64 a) ∧ w.cell? ⟨q, 4, none⟩ = some (.int .i64 b) ∧ w.cell? ⟨q, 5, none⟩ = some (.int .i64 d) :=
 ⟨cells_of h 0, cells_of h 1, cells_of h 2, cells_of h 3, cells_of h 4, cells_of h 5⟩
set_option maxRecDepth 1000000 in
set_option maxHeartbeats 6400000 in
theorem refConst_1 {B : Nat} (f : Fl) (v : Value) (w : World) (hf : FileAt B w v f) (hB : B ≤ w.heap.size) (ht : ∀ i, (textP f.pool i).size ≤ 1000000) (text : ByteArray) (hc : text.size ≤ 1000000) (n a b d : Int) :
  Calls Tryz.prog 125 #[v, .agg #[.int .i64 1, .string text, .int .i64 n, .int .i64 a, .int .i64 b, .int .i64 d]] w fun e w' => e = .returned (.int .i64 (constE f.pool ⟨1, text, n, a, b, d⟩)) ∧ Below w.heap.size w w' := by
 have HE := Lib.hid (show constE f.pool ⟨1, text, n, a, b, d⟩ = if rightTagB ⟨1, text, n, a, b, d⟩ = true then (if linksB f.pool ⟨1, text, n, a, b, d⟩ = true then textE f.pool ⟨1, text, n, a, b, d⟩ else 7) else 7 from rfl)
 have HTX := Lib.hid ht
 have HT1 := Lib.hid (fun r V W hW hWB i h => refTagged_at (B := B) r f V W hW hWB i 1 h)
 have HT4 := Lib.hid (fun r V W hW hWB i h => refTagged_at (B := B) r f V W hW hWB i 4 h)
 have HX := Lib.hid (fun V W hW hWB i h => reftext_any (B := B) f V W hW hWB i h)
 have HEN := fun W => Lib.hid (refEncode_any text W hc)
 have HRU := fun W => Lib.hid (refRunes_any text W hc)
 generalize constE f.pool ⟨1, text, n, a, b, d⟩ = R at *
 obtain ⟨Ap, cp, Ai, ci, Af, cf, Am, cm, rfl, hi⟩ := id hf
 have FL0 := Lib.hid ((hf.alloc hB (.cells #[.slice Ap f.pool.length cp, .int .i64 f.fl, .int .i64 f.this, .int .i64 f.super, .slice Ai f.ifs.length ci, .slice Af f.fds.length cf, .slice Am f.mts.length cm] 94)).alloc (le_alloc hB _) (.cells #[.int .i64 1, .string text, .int .i64 n, .int .i64 a, .int .i64 b, .int .i64 d] 138))
 have BE0 := Lib.hid (((Below.refl w.heap.size w).alloc (Nat.le_refl _) (.cells #[.slice Ap f.pool.length cp, .int .i64 f.fl, .int .i64 f.this, .int .i64 f.super, .slice Ai f.ifs.length ci, .slice Af f.fds.length cf, .slice Am f.mts.length cm] 94)).alloc (le_alloc (Nat.le_refl _) _) (.cells #[.int .i64 1, .string text, .int .i64 n, .int .i64 a, .int .i64 b, .int .i64 d] 138))
 have BF0 := Lib.hid ((FBox.new Ap cp Ai ci Af cf Am cm f w).alloc (.cells #[.int .i64 1, .string text, .int .i64 n, .int .i64 a, .int .i64 b, .int .i64 d] 138))
 have BM0 := Lib.hid (show CBox (w.heap.size + 1) 1 text n a b d _ from heap_new2 w (.cells #[.slice Ap f.pool.length cp, .int .i64 f.fl, .int .i64 f.this, .int .i64 f.super, .slice Ai f.ifs.length ci, .slice Af f.fds.length cf, .slice Am f.mts.length cm] 94) (.cells #[.int .i64 1, .string text, .int .i64 n, .int .i64 a, .int .i64 b, .int .i64 d] 138))
 clear hi hf ht hc
 rcases (show (n ≠ 0 ∧ (n == 0) = false ∧ (n != 0) = true) ∨ (n = 0) by
  by_cases h : n = 0
  ·exact .inr h
  ·exact .inl ⟨h, by simpa using h, by simpa using h⟩) with ⟨hn, gn, gn'⟩ | hn
 ·have HR := Lib.hid (show R = 7 by rw [HE.out]; simp [rightTagB, linksB, linkB, tag1, tag2, hn])
  clear HE
  go_enter Tryz.func125, Tryz.ntmps125
  go_wp2
  go_ret
  exact ⟨ret_i HR.out.symm, BE0.out⟩
 subst hn
 rcases (show (a ≠ 0 ∧ (a == 0) = false ∧ (a != 0) = true) ∨ (a = 0) by
  by_cases h : a = 0
  ·exact .inr h
  ·exact .inl ⟨h, by simpa using h, by simpa using h⟩) with ⟨ha, ga, ga'⟩ | ha
 ·have HR := Lib.hid (show R = 7 by rw [HE.out]; simp [rightTagB, linksB, linkB, tag1, tag2, ha])
  clear HE
  go_enter Tryz.func125, Tryz.ntmps125
  go_wp2
  go_ret
  exact ⟨ret_i HR.out.symm, BE0.out⟩
 subst ha
 rcases (show (b ≠ 0 ∧ (b == 0) = false ∧ (b != 0) = true) ∨ (b = 0) by
  by_cases h : b = 0
  ·exact .inr h
  ·exact .inl ⟨h, by simpa using h, by simpa using h⟩) with ⟨hb, gb, gb'⟩ | hb
 ·have HR := Lib.hid (show R = 7 by rw [HE.out]; simp [rightTagB, linksB, linkB, tag1, tag2, hb])
  clear HE
  go_enter Tryz.func125, Tryz.ntmps125
  go_wp2
  go_ret
  exact ⟨ret_i HR.out.symm, BE0.out⟩
 subst hb
 rcases (show (d ≠ 0 ∧ (d == 0) = false ∧ (d != 0) = true) ∨ (d = 0) by
  by_cases h : d = 0
  ·exact .inr h
  ·exact .inl ⟨h, by simpa using h, by simpa using h⟩) with ⟨hd, gd, gd'⟩ | hd
 ·have HR := Lib.hid (show R = 7 by rw [HE.out]; simp [rightTagB, linksB, linkB, tag1, tag2, hd])
  clear HE
  go_enter Tryz.func125, Tryz.ntmps125
  go_wp2
  go_ret
  exact ⟨ret_i HR.out.symm, BE0.out⟩
 subst hd
 have HR := Lib.hid (show R = runesE text by rw [HE.out]; simp [rightTagB, linksB, linkB, tag1, tag2, textE])
 have HRE := Lib.hid (show runesE text = if encE (L text) = 0 then (if 2000 < (ints (runes (L text))).length then 2 else 0) else encE (L text) by unfold runesE ints; rw [List.length_map])
 clear HE
 generalize encE (L text) = E at *
 by_cases hE : E = 0
 ·subst hE
  have HR2 := Lib.hid (show R = if 2000 < (ints (runes (L text))).length then 2 else 0 by rw [HR.out, HRE.out, if_pos rfl])
  generalize ints (runes (L text)) = rs at *
  clear HR HRE
  go_enter Tryz.func125, Tryz.ntmps125
  go_wp2_with fail
  refine ((HEN _).out).mono ?_
  rintro e w1 ⟨rfl, hb⟩
  have BE1 := Lib.hid (Below.link BE0.out hb)
  have FL1 := Lib.hid (FL0.out.below hb (Nat.le_trans hB BE0.out.size))
  have BF1 := Lib.hid (BF0.out.below hb BF0.out.lt)
  have BM1 := Lib.hid (BM0.out.below hb BM0.out.lt)
  have ltf1 := BF1.out.lt
  have ltm1 := BM1.out.lt
  clear hb
  obtain ⟨c0, c1, c2, c3, c4, c5, c6⟩ := BF1.out.cells
  obtain ⟨m0, m1, m2, m3, m4, m5⟩ := BM1.out.cells
  go_wp2_with fail
  refine ((HRU _).out).mono ?_
  rintro e w2 ⟨v1, rfl, own, hb⟩
  obtain ⟨A1, c1x, rfl⟩ := own_form own
  clear own
  have BE2 := Lib.hid (Below.link BE1.out hb)
  have FL2 := Lib.hid (FL1.out.below hb (Nat.le_trans hB BE1.out.size))
  have BF2 := Lib.hid (BF1.out.below hb BF1.out.lt)
  have BM2 := Lib.hid (BM1.out.below hb BM1.out.lt)
  have ltf2 := BF2.out.lt
  have ltm2 := BM2.out.lt
  clear hb
  clear c0 c1 c2 c3 c4 c5 c6 m0 m1 m2 m3 m4 m5
  obtain ⟨c0, c1, c2, c3, c4, c5, c6⟩ := BF2.out.cells
  obtain ⟨m0, m1, m2, m3, m4, m5⟩ := BM2.out.cells
  generalize rs.length = len at *
  by_cases h2 : 2000 < len
  ·have h2' : (2000 : Int) < len := by omega
   go_wp2
   go_ret
   exact ⟨ret_i (by rw [HR2.out, if_pos h2]), BE2.out⟩
  ·have h2' : (len : Int) ≤ 2000 := by omega
   go_wp2
   go_ret
   exact ⟨ret_i (by rw [HR2.out, if_neg h2]), BE2.out⟩
 ·have HR2 := Lib.hid (show R = E by rw [HR.out, HRE.out, if_neg hE])
  have gE : (E == 0) = false := by simpa using hE
  have gE' : (E != 0) = true := by simpa using hE
  clear HR HRE
  go_enter Tryz.func125, Tryz.ntmps125
  go_wp2_with fail
  refine ((HEN _).out).mono ?_
  rintro e w1 ⟨rfl, hb⟩
  have BE1 := Lib.hid (Below.link BE0.out hb)
  have FL1 := Lib.hid (FL0.out.below hb (Nat.le_trans hB BE0.out.size))
  have BF1 := Lib.hid (BF0.out.below hb BF0.out.lt)
  have BM1 := Lib.hid (BM0.out.below hb BM0.out.lt)
  have ltf1 := BF1.out.lt
  have ltm1 := BM1.out.lt
  clear hb
  obtain ⟨c0, c1, c2, c3, c4, c5, c6⟩ := BF1.out.cells
  obtain ⟨m0, m1, m2, m3, m4, m5⟩ := BM1.out.cells
  go_wp2
  go_ret
  exact ⟨ret_i HR2.out.symm, BE1.out⟩
set_option maxRecDepth 1000000 in
set_option maxHeartbeats 6400000 in
theorem refConst_4 {B : Nat} (f : Fl) (v : Value) (w : World) (hf : FileAt B w v f) (hB : B ≤ w.heap.size) (ht : ∀ i, (textP f.pool i).size ≤ 1000000) (text : ByteArray) (hc : text.size ≤ 1000000) (n a b d : Int) :
  Calls Tryz.prog 125 #[v, .agg #[.int .i64 4, .string text, .int .i64 n, .int .i64 a, .int .i64 b, .int .i64 d]] w fun e w' => e = .returned (.int .i64 (constE f.pool ⟨4, text, n, a, b, d⟩)) ∧ Below w.heap.size w w' := by
 have HE := Lib.hid (show constE f.pool ⟨4, text, n, a, b, d⟩ = if rightTagB ⟨4, text, n, a, b, d⟩ = true then (if linksB f.pool ⟨4, text, n, a, b, d⟩ = true then textE f.pool ⟨4, text, n, a, b, d⟩ else 7) else 7 from rfl)
 have HTX := Lib.hid ht
 have HT1 := Lib.hid (fun r V W hW hWB i h => refTagged_at (B := B) r f V W hW hWB i 1 h)
 have HT4 := Lib.hid (fun r V W hW hWB i h => refTagged_at (B := B) r f V W hW hWB i 4 h)
 have HX := Lib.hid (fun V W hW hWB i h => reftext_any (B := B) f V W hW hWB i h)
 have HEN := fun W => Lib.hid (refEncode_any text W hc)
 have HRU := fun W => Lib.hid (refRunes_any text W hc)
 generalize constE f.pool ⟨4, text, n, a, b, d⟩ = R at *
 obtain ⟨Ap, cp, Ai, ci, Af, cf, Am, cm, rfl, hi⟩ := id hf
 have FL0 := Lib.hid ((hf.alloc hB (.cells #[.slice Ap f.pool.length cp, .int .i64 f.fl, .int .i64 f.this, .int .i64 f.super, .slice Ai f.ifs.length ci, .slice Af f.fds.length cf, .slice Am f.mts.length cm] 94)).alloc (le_alloc hB _) (.cells #[.int .i64 4, .string text, .int .i64 n, .int .i64 a, .int .i64 b, .int .i64 d] 138))
 have BE0 := Lib.hid (((Below.refl w.heap.size w).alloc (Nat.le_refl _) (.cells #[.slice Ap f.pool.length cp, .int .i64 f.fl, .int .i64 f.this, .int .i64 f.super, .slice Ai f.ifs.length ci, .slice Af f.fds.length cf, .slice Am f.mts.length cm] 94)).alloc (le_alloc (Nat.le_refl _) _) (.cells #[.int .i64 4, .string text, .int .i64 n, .int .i64 a, .int .i64 b, .int .i64 d] 138))
 have BF0 := Lib.hid ((FBox.new Ap cp Ai ci Af cf Am cm f w).alloc (.cells #[.int .i64 4, .string text, .int .i64 n, .int .i64 a, .int .i64 b, .int .i64 d] 138))
 have BM0 := Lib.hid (show CBox (w.heap.size + 1) 4 text n a b d _ from heap_new2 w (.cells #[.slice Ap f.pool.length cp, .int .i64 f.fl, .int .i64 f.this, .int .i64 f.super, .slice Ai f.ifs.length ci, .slice Af f.fds.length cf, .slice Am f.mts.length cm] 94) (.cells #[.int .i64 4, .string text, .int .i64 n, .int .i64 a, .int .i64 b, .int .i64 d] 138))
 clear hi hf ht hc
 rcases (str_nil (s := text)).symm with ⟨hx, e1, e2⟩ | ⟨hx, e1, e2⟩
 ·have hx0 : ¬ text.size = 0 := by omega
  have HR := Lib.hid (show R = 7 by rw [HE.out]; simp [rightTagB, linksB, linkB, tag1, tag2, hx0])
  clear HE
  go_enter Tryz.func125, Tryz.ntmps125
  go_wp2
  go_ret
  exact ⟨ret_i HR.out.symm, BE0.out⟩
 rcases (show (n ≠ 0 ∧ (n == 0) = false ∧ (n != 0) = true) ∨ (n = 0) by
  by_cases h : n = 0
  ·exact .inr h
  ·exact .inl ⟨h, by simpa using h, by simpa using h⟩) with ⟨hn, gn, gn'⟩ | hn
 ·have HR := Lib.hid (show R = 7 by rw [HE.out]; simp [rightTagB, linksB, linkB, tag1, tag2, hx, hn])
  clear HE
  go_enter Tryz.func125, Tryz.ntmps125
  go_wp2
  go_ret
  exact ⟨ret_i HR.out.symm, BE0.out⟩
 subst hn
 rcases (show (b ≠ 0 ∧ (b == 0) = false ∧ (b != 0) = true) ∨ (b = 0) by
  by_cases h : b = 0
  ·exact .inr h
  ·exact .inl ⟨h, by simpa using h, by simpa using h⟩) with ⟨hb, gb, gb'⟩ | hb
 ·have HR := Lib.hid (show R = 7 by rw [HE.out]; simp [rightTagB, linksB, linkB, tag1, tag2, hx, hb])
  clear HE
  go_enter Tryz.func125, Tryz.ntmps125
  go_wp2
  go_ret
  exact ⟨ret_i HR.out.symm, BE0.out⟩
 subst hb
 rcases (show (d ≠ 0 ∧ (d == 0) = false ∧ (d != 0) = true) ∨ (d = 0) by
  by_cases h : d = 0
  ·exact .inr h
  ·exact .inl ⟨h, by simpa using h, by simpa using h⟩) with ⟨hd, gd, gd'⟩ | hd
 ·have HR := Lib.hid (show R = 7 by rw [HE.out]; simp [rightTagB, linksB, linkB, tag1, tag2, hx, hd])
  clear HE
  go_enter Tryz.func125, Tryz.ntmps125
  go_wp2
  go_ret
  exact ⟨ret_i HR.out.symm, BE0.out⟩
 subst hd
 cases h1 : tagged f.pool a 1 with
 | false =>
  have HR := Lib.hid (show R = 7 by rw [HE.out]; simp [rightTagB, linksB, linkB, tag1, tag2, textE, hx, h1])
  have H1 := Lib.hid h1
  clear HE h1
  go_enter Tryz.func125, Tryz.ntmps125
  go_wp2_with fail
  refine (HT1.out false _ _ FL0.out (Nat.le_trans hB BE0.out.size) _ H1.out).mono ?_
  rintro e w1 ⟨rfl, hb⟩
  have BE1 := Lib.hid (Below.link BE0.out hb)
  have FL1 := Lib.hid (FL0.out.below hb (Nat.le_trans hB BE0.out.size))
  have BF1 := Lib.hid (BF0.out.below hb BF0.out.lt)
  have BM1 := Lib.hid (BM0.out.below hb BM0.out.lt)
  have ltf1 := BF1.out.lt
  have ltm1 := BM1.out.lt
  clear hb
  obtain ⟨c0, c1, c2, c3, c4, c5, c6⟩ := BF1.out.cells
  obtain ⟨m0, m1, m2, m3, m4, m5⟩ := BM1.out.cells
  go_wp2
  go_ret
  exact ⟨ret_i HR.out.symm, BE1.out⟩
 | true =>
  have H1 := Lib.hid h1
  have HNM := fun W => Lib.hid (refName_any (textP f.pool a) W (HTX.out _))
  have HFD := fun W => Lib.hid (refField_any (textP f.pool a) W (HTX.out _))
  have HR := Lib.hid (show R = if nameL (L (textP f.pool a)) = true then 0 else 8 by rw [HE.out]; simp [rightTagB, linksB, linkB, tag1, tag2, textE, hx, nameE, h1])
  clear HE h1
  obtain ⟨nb, hnb⟩ : ∃ q, nameL (L (textP f.pool a)) = q := ⟨_, rfl⟩
  rw [hnb] at HNM
  try rw [hnb] at HR
  clear hnb
  cases nb with
  | false =>
   go_enter Tryz.func125, Tryz.ntmps125
   go_wp2_with fail
   refine (HT1.out true _ _ FL0.out (Nat.le_trans hB BE0.out.size) _ H1.out).mono ?_
   rintro e w1 ⟨rfl, hb⟩
   have BE1 := Lib.hid (Below.link BE0.out hb)
   have FL1 := Lib.hid (FL0.out.below hb (Nat.le_trans hB BE0.out.size))
   have BF1 := Lib.hid (BF0.out.below hb BF0.out.lt)
   have BM1 := Lib.hid (BM0.out.below hb BM0.out.lt)
   have ltf1 := BF1.out.lt
   have ltm1 := BM1.out.lt
   clear hb
   obtain ⟨c0, c1, c2, c3, c4, c5, c6⟩ := BF1.out.cells
   obtain ⟨m0, m1, m2, m3, m4, m5⟩ := BM1.out.cells
   go_wp2_with fail
   refine (HX.out _ _ FL1.out (Nat.le_trans hB BE1.out.size) _ H1.out).mono ?_
   rintro e w2 ⟨rfl, hb⟩
   have BE2 := Lib.hid (Below.link BE1.out hb)
   have FL2 := Lib.hid (FL1.out.below hb (Nat.le_trans hB BE1.out.size))
   have BF2 := Lib.hid (BF1.out.below hb BF1.out.lt)
   have BM2 := Lib.hid (BM1.out.below hb BM1.out.lt)
   have ltf2 := BF2.out.lt
   have ltm2 := BM2.out.lt
   clear hb
   clear c0 c1 c2 c3 c4 c5 c6 m0 m1 m2 m3 m4 m5
   obtain ⟨c0, c1, c2, c3, c4, c5, c6⟩ := BF2.out.cells
   obtain ⟨m0, m1, m2, m3, m4, m5⟩ := BM2.out.cells
   go_wp2_with fail
   refine ((HNM _).out).mono ?_
   rintro e w3 ⟨rfl, hb⟩
   have BE3 := Lib.hid (Below.link BE2.out hb)
   have FL3 := Lib.hid (FL2.out.below hb (Nat.le_trans hB BE2.out.size))
   have BF3 := Lib.hid (BF2.out.below hb BF2.out.lt)
   have BM3 := Lib.hid (BM2.out.below hb BM2.out.lt)
   have ltf3 := BF3.out.lt
   have ltm3 := BM3.out.lt
   clear hb
   clear c0 c1 c2 c3 c4 c5 c6 m0 m1 m2 m3 m4 m5
   obtain ⟨c0, c1, c2, c3, c4, c5, c6⟩ := BF3.out.cells
   obtain ⟨m0, m1, m2, m3, m4, m5⟩ := BM3.out.cells
   go_wp2
   go_ret
   exact ⟨ret_i (by rw [HR.out]; rfl), BE3.out⟩
  | true =>
   go_enter Tryz.func125, Tryz.ntmps125
   go_wp2_with fail
   refine (HT1.out true _ _ FL0.out (Nat.le_trans hB BE0.out.size) _ H1.out).mono ?_
   rintro e w1 ⟨rfl, hb⟩
   have BE1 := Lib.hid (Below.link BE0.out hb)
   have FL1 := Lib.hid (FL0.out.below hb (Nat.le_trans hB BE0.out.size))
   have BF1 := Lib.hid (BF0.out.below hb BF0.out.lt)
   have BM1 := Lib.hid (BM0.out.below hb BM0.out.lt)
   have ltf1 := BF1.out.lt
   have ltm1 := BM1.out.lt
   clear hb
   obtain ⟨c0, c1, c2, c3, c4, c5, c6⟩ := BF1.out.cells
   obtain ⟨m0, m1, m2, m3, m4, m5⟩ := BM1.out.cells
   go_wp2_with fail
   refine (HX.out _ _ FL1.out (Nat.le_trans hB BE1.out.size) _ H1.out).mono ?_
   rintro e w2 ⟨rfl, hb⟩
   have BE2 := Lib.hid (Below.link BE1.out hb)
   have FL2 := Lib.hid (FL1.out.below hb (Nat.le_trans hB BE1.out.size))
   have BF2 := Lib.hid (BF1.out.below hb BF1.out.lt)
   have BM2 := Lib.hid (BM1.out.below hb BM1.out.lt)
   have ltf2 := BF2.out.lt
   have ltm2 := BM2.out.lt
   clear hb
   clear c0 c1 c2 c3 c4 c5 c6 m0 m1 m2 m3 m4 m5
   obtain ⟨c0, c1, c2, c3, c4, c5, c6⟩ := BF2.out.cells
   obtain ⟨m0, m1, m2, m3, m4, m5⟩ := BM2.out.cells
   go_wp2_with fail
   refine ((HNM _).out).mono ?_
   rintro e w3 ⟨rfl, hb⟩
   have BE3 := Lib.hid (Below.link BE2.out hb)
   have FL3 := Lib.hid (FL2.out.below hb (Nat.le_trans hB BE2.out.size))
   have BF3 := Lib.hid (BF2.out.below hb BF2.out.lt)
   have BM3 := Lib.hid (BM2.out.below hb BM2.out.lt)
   have ltf3 := BF3.out.lt
   have ltm3 := BM3.out.lt
   clear hb
   clear c0 c1 c2 c3 c4 c5 c6 m0 m1 m2 m3 m4 m5
   obtain ⟨c0, c1, c2, c3, c4, c5, c6⟩ := BF3.out.cells
   obtain ⟨m0, m1, m2, m3, m4, m5⟩ := BM3.out.cells
   go_wp2
   go_ret
   exact ⟨ret_i (by rw [HR.out]; rfl), BE3.out⟩
end Go.Proofs.YtmaknddlgppinaaGreatDoor
