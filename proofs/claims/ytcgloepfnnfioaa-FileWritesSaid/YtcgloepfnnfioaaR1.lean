/-
  WALKS of the document's own errors: of a descriptor, of a member's name and descriptor; what a member has besides.
  WALK of the document's own error of what a file says of the class itself.
-/
import Derived.Test.YtcgloepfnnfioaaE7
import Derived.Test.YtcgloepfnnfioaaW11
import Derived.Test.YtcgloepfnnfioaaD9
import Derived.Deep.RegionHeld3
import Derived.Deep.LoopGhost
set_option linter.unusedVariables false
set_option linter.unusedSimpArgs false
namespace Go.Proofs.Ytcgloepfnnfioaa
open Go.RowKit

def descE (b : Bool) (s : ByteArray) : Int := if b then sigE s else typeE s
set_option maxRecDepth 1000000 in
set_option maxHeartbeats 1600000 in
theorem described_any (s : ByteArray) (b : Bool) (w : World) (hs : s.size ≤ 1000000) :
    Calls Try.prog 91 #[.string s, .bool b] w fun e w' => e = .returned (.int .i64 (descE b s)) ∧ Below w.heap.size w w' := by
  cases b with
  | true =>
    have HN := fun W => Lib.hid (refMethod_any s W hs)
    have HE := Lib.hid (show descE true s = (res (methL (L s))).2.2.2 from rfl)
    obtain ⟨⟨xs, ⟨d, nm⟩, vo, er⟩, hx⟩ : ∃ x, res (methL (L s)) = x := ⟨_, rfl⟩
    rw [hx] at HN HE
    clear hx
    unfold sgV at HN
    simp only at HN HE
    go_enter Try.func91, Try.ntmps91
    go_wp2_with fail
    refine (HN _).out.mono ?_
    rintro e w1 ⟨v, rfl, own, hb⟩
    obtain ⟨a, c, rfl⟩ := own_form own
    generalize xs.length = n at *
    have HB := Lib.hid (hb.alloc hb.size (.cells #[.slice a n c, .int .i64 d, .string (mkB nm), .bool vo] 112))
    clear hb own
    go_wp2
    go_ret
    exact ⟨ret_i HE.out.symm, HB.out⟩
  | false =>
    have HN := fun W => Lib.hid (refField_any s W hs)
    have HE := Lib.hid (show descE false s = match fieldL (L s) with | some _ => 0 | none => 9 from rfl)
    obtain ⟨x, hx⟩ : ∃ x, fieldL (L s) = x := ⟨_, rfl⟩
    rw [hx] at HN HE
    clear hx
    cases x with
    | none =>
      rw [show fdV none = .tuple #[.agg #[.int .i64 0, .string ⟨#[]⟩], .int .i64 9] from rfl] at HN
      go_enter Try.func91, Try.ntmps91
      go_wp2_with fail
      refine (HN _).out.mono ?_
      rintro e w1 ⟨rfl, hb⟩
      have HB := Lib.hid (hb.alloc hb.size (.cells #[.int .i64 0, .string ⟨#[]⟩] 98))
      clear hb
      go_wp2
      go_ret
      exact ⟨ret_i HE.out.symm, HB.out⟩
    | some q =>
      rw [show fdV (some q) = .tuple #[.agg #[.int .i64 q.1, .string (mkB q.2)], .int .i64 0] from rfl] at HN
      go_enter Try.func91, Try.ntmps91
      go_wp2_with fail
      refine (HN _).out.mono ?_
      rintro e w1 ⟨rfl, hb⟩
      have HB := Lib.hid (hb.alloc hb.size (.cells #[.int .i64 q.1, .string (mkB q.2)] 98))
      clear hb
      go_wp2
      go_ret
      exact ⟨ret_i HE.out.symm, HB.out⟩
set_option maxRecDepth 1000000 in
set_option maxHeartbeats 6400000 in
theorem bare_any (w : World) (m : Mb) (A : Option Addr) (c : Nat) :
    Calls Try.prog 93 #[.agg #[.int .i64 m.fl, .int .i64 m.nm, .int .i64 m.ds, .int .i64 m.ms, .int .i64 m.ml, .string m.code, .slice A m.hs.length c]] w fun e w' => e = .returned (.bool (bareB m)) ∧ Below w.heap.size w w' := by
  obtain ⟨fl, nm, ds, ms, ml, code, hs⟩ := m
  have HE := Lib.hid (show bareB ⟨fl, nm, ds, ms, ml, code, hs⟩ = (decide (ms = 0) && decide (ml = 0) && decide (code.size = 0) && decide (hs.length = 0)) from rfl)
  simp only
  generalize bareB ⟨fl, nm, ds, ms, ml, code, hs⟩ = R at *
  have BE := Lib.hid ((Below.refl w.heap.size w).alloc (Nat.le_refl _) (.cells #[.int .i64 fl, .int .i64 nm, .int .i64 ds, .int .i64 ms, .int .i64 ml, .string code, .slice A hs.length c] 38))
  generalize hs.length = n at *
  rcases str_nil (s := code) with ⟨hx, e1, e2⟩ | ⟨hx, e1, e2⟩
  all_goals
    obtain ⟨S, hS⟩ : ∃ S, code.size = S := ⟨_, rfl⟩
    rw [hS] at hx HE
    clear hS
    by_cases h1 : ms = 0
    all_goals
      by_cases h2 : ml = 0
      all_goals
        by_cases h3 : n = 0
        all_goals
          have f1 : (ms == 0) = decide (ms = 0) := rfl
          have f2 : (ml == 0) = decide (ml = 0) := rfl
          have hn0 : n = 0 ∨ 0 < n := by omega
          first
            | subst h1
            | rw [decide_eq_false h1] at f1
          first
            | subst h2
            | rw [decide_eq_false h2] at f2
          first
            | (subst h3; clear hn0)
            | (have h3' : 0 < n := by omega
               have h3'' : (0 : Int) < n := by omega
               have h3b : ((n : Int) == 0) = false := by simp; omega
               clear hn0)
          go_enter Try.func93, Try.ntmps93
          go_wp2
          go_ret
          refine ⟨ret_b ?_, BE.out⟩
          rw [HE.out]
          first
            | (simp; done)
            | (simp [*]; done)
            | (simp; omega)
/-- The document's error of a member's name and descriptor. -/
def namedE (p : List Cn) (m : Mb) (b : Bool) : Int := if tagged p m.nm 1 && tagged p m.ds 1 then (if nameL (L (textP p m.nm)) = true then descE b (textP p m.ds) else 8) else 7
set_option maxRecDepth 1000000 in
set_option maxHeartbeats 6400000 in
theorem named_any {B : Nat} (f : Fl) (v : Value) (w : World) (hf : FileAt B w v f) (hB : B ≤ w.heap.size) (ht : ∀ i, (textP f.pool i).size ≤ 1000000) (m : Mb) (A : Option Addr) (c : Nat) (b : Bool) :
    Calls Try.prog 92 #[v, .agg #[.int .i64 m.fl, .int .i64 m.nm, .int .i64 m.ds, .int .i64 m.ms, .int .i64 m.ml, .string m.code, .slice A m.hs.length c], .bool b] w fun e w' => e = .returned (.int .i64 (namedE f.pool m b)) ∧ Below w.heap.size w w' := by
  have HTX := Lib.hid ht
  have HT := Lib.hid (fun r V W hW hWB i h => refTagged_at (B := B) r f V W hW hWB i 1 h)
  have HX := Lib.hid (fun V W hW hWB i h => reftext_any (B := B) f V W hW hWB i h)
  obtain ⟨Ap, cp, Ai, ci, Af, cf, Am, cm, rfl, hi⟩ := id hf
  have FL0 := Lib.hid ((hf.alloc hB (.cells #[.slice Ap f.pool.length cp, .int .i64 f.fl, .int .i64 f.this, .int .i64 f.super, .slice Ai f.ifs.length ci, .slice Af f.fds.length cf, .slice Am f.mts.length cm] 26)).alloc (le_alloc hB _) (.cells #[.int .i64 m.fl, .int .i64 m.nm, .int .i64 m.ds, .int .i64 m.ms, .int .i64 m.ml, .string m.code, .slice A m.hs.length c] 38))
  have BE0 := Lib.hid (((Below.refl w.heap.size w).alloc (Nat.le_refl _) (.cells #[.slice Ap f.pool.length cp, .int .i64 f.fl, .int .i64 f.this, .int .i64 f.super, .slice Ai f.ifs.length ci, .slice Af f.fds.length cf, .slice Am f.mts.length cm] 26)).alloc (le_alloc (Nat.le_refl _) _) (.cells #[.int .i64 m.fl, .int .i64 m.nm, .int .i64 m.ds, .int .i64 m.ms, .int .i64 m.ml, .string m.code, .slice A m.hs.length c] 38))
  have BF0 := Lib.hid ((FBox.new Ap cp Ai ci Af cf Am cm f w).alloc (.cells #[.int .i64 m.fl, .int .i64 m.nm, .int .i64 m.ds, .int .i64 m.ms, .int .i64 m.ml, .string m.code, .slice A m.hs.length c] 38))
  have BM0 := Lib.hid (show MBox (w.heap.size + 1) m A c _ from heap_new2 w (.cells #[.slice Ap f.pool.length cp, .int .i64 f.fl, .int .i64 f.this, .int .i64 f.super, .slice Ai f.ifs.length ci, .slice Af f.fds.length cf, .slice Am f.mts.length cm] 26) (.cells #[.int .i64 m.fl, .int .i64 m.nm, .int .i64 m.ds, .int .i64 m.ms, .int .i64 m.ml, .string m.code, .slice A m.hs.length c] 38))
  clear hi hf ht
  cases h1 : tagged f.pool m.nm 1 with
  | false =>
    have HRR := Lib.hid (show namedE f.pool m b = 7 by unfold namedE; rw [h1]; rfl)
    have H1 := Lib.hid h1
    clear h1
    cases h2 : tagged f.pool m.ds 1 with
    | false =>
      have H2 := Lib.hid h2
      clear h2
      go_enter Try.func92, Try.ntmps92
      go_wp2_with fail
      refine (HT.out false _ _ FL0.out (Nat.le_trans hB BE0.out.size) _ H1.out).mono ?_
      rintro e w1 ⟨rfl, hb⟩
      have BE1 := Lib.hid (Below.link BE0.out hb)
      have FL1 := Lib.hid (FL0.out.below hb (Nat.le_trans hB BE0.out.size))
      have BF1 := Lib.hid (BF0.out.below hb BF0.out.lt)
      have BM1 := Lib.hid (BM0.out.below hb BM0.out.lt)
      have ltf1 := BF1.out.lt
      have ltm1 := BM1.out.lt
      clear hb
      obtain ⟨c0, c1, c2, c3, c4, c5, c6⟩ := BF1.out.cells
      obtain ⟨m0, m1, m2, m3, m4, m5, m6⟩ := BM1.out.cells
      go_wp2_with fail
      refine (HT.out false _ _ FL1.out (Nat.le_trans hB BE1.out.size) _ H2.out).mono ?_
      rintro e w2 ⟨rfl, hb⟩
      have BE2 := Lib.hid (Below.link BE1.out hb)
      have FL2 := Lib.hid (FL1.out.below hb (Nat.le_trans hB BE1.out.size))
      have BF2 := Lib.hid (BF1.out.below hb BF1.out.lt)
      have BM2 := Lib.hid (BM1.out.below hb BM1.out.lt)
      have ltf2 := BF2.out.lt
      have ltm2 := BM2.out.lt
      clear hb
      clear c0 c1 c2 c3 c4 c5 c6 m0 m1 m2 m3 m4 m5 m6
      obtain ⟨c0, c1, c2, c3, c4, c5, c6⟩ := BF2.out.cells
      obtain ⟨m0, m1, m2, m3, m4, m5, m6⟩ := BM2.out.cells
      go_wp2
      go_ret
      exact ⟨ret_i HRR.out.symm, BE2.out⟩
    | true =>
      have H2 := Lib.hid h2
      clear h2
      go_enter Try.func92, Try.ntmps92
      go_wp2_with fail
      refine (HT.out false _ _ FL0.out (Nat.le_trans hB BE0.out.size) _ H1.out).mono ?_
      rintro e w1 ⟨rfl, hb⟩
      have BE1 := Lib.hid (Below.link BE0.out hb)
      have FL1 := Lib.hid (FL0.out.below hb (Nat.le_trans hB BE0.out.size))
      have BF1 := Lib.hid (BF0.out.below hb BF0.out.lt)
      have BM1 := Lib.hid (BM0.out.below hb BM0.out.lt)
      have ltf1 := BF1.out.lt
      have ltm1 := BM1.out.lt
      clear hb
      obtain ⟨c0, c1, c2, c3, c4, c5, c6⟩ := BF1.out.cells
      obtain ⟨m0, m1, m2, m3, m4, m5, m6⟩ := BM1.out.cells
      go_wp2_with fail
      refine (HT.out true _ _ FL1.out (Nat.le_trans hB BE1.out.size) _ H2.out).mono ?_
      rintro e w2 ⟨rfl, hb⟩
      have BE2 := Lib.hid (Below.link BE1.out hb)
      have FL2 := Lib.hid (FL1.out.below hb (Nat.le_trans hB BE1.out.size))
      have BF2 := Lib.hid (BF1.out.below hb BF1.out.lt)
      have BM2 := Lib.hid (BM1.out.below hb BM1.out.lt)
      have ltf2 := BF2.out.lt
      have ltm2 := BM2.out.lt
      clear hb
      clear c0 c1 c2 c3 c4 c5 c6 m0 m1 m2 m3 m4 m5 m6
      obtain ⟨c0, c1, c2, c3, c4, c5, c6⟩ := BF2.out.cells
      obtain ⟨m0, m1, m2, m3, m4, m5, m6⟩ := BM2.out.cells
      go_wp2
      go_ret
      exact ⟨ret_i HRR.out.symm, BE2.out⟩
  | true =>
    have H1 := Lib.hid h1
    cases h2 : tagged f.pool m.ds 1 with
    | false =>
      have HRR := Lib.hid (show namedE f.pool m b = 7 by unfold namedE; rw [h1, h2]; rfl)
      have H2 := Lib.hid h2
      clear h2 h1
      go_enter Try.func92, Try.ntmps92
      go_wp2_with fail
      refine (HT.out true _ _ FL0.out (Nat.le_trans hB BE0.out.size) _ H1.out).mono ?_
      rintro e w1 ⟨rfl, hb⟩
      have BE1 := Lib.hid (Below.link BE0.out hb)
      have FL1 := Lib.hid (FL0.out.below hb (Nat.le_trans hB BE0.out.size))
      have BF1 := Lib.hid (BF0.out.below hb BF0.out.lt)
      have BM1 := Lib.hid (BM0.out.below hb BM0.out.lt)
      have ltf1 := BF1.out.lt
      have ltm1 := BM1.out.lt
      clear hb
      obtain ⟨c0, c1, c2, c3, c4, c5, c6⟩ := BF1.out.cells
      obtain ⟨m0, m1, m2, m3, m4, m5, m6⟩ := BM1.out.cells
      go_wp2_with fail
      refine (HT.out false _ _ FL1.out (Nat.le_trans hB BE1.out.size) _ H2.out).mono ?_
      rintro e w2 ⟨rfl, hb⟩
      have BE2 := Lib.hid (Below.link BE1.out hb)
      have FL2 := Lib.hid (FL1.out.below hb (Nat.le_trans hB BE1.out.size))
      have BF2 := Lib.hid (BF1.out.below hb BF1.out.lt)
      have BM2 := Lib.hid (BM1.out.below hb BM1.out.lt)
      have ltf2 := BF2.out.lt
      have ltm2 := BM2.out.lt
      clear hb
      clear c0 c1 c2 c3 c4 c5 c6 m0 m1 m2 m3 m4 m5 m6
      obtain ⟨c0, c1, c2, c3, c4, c5, c6⟩ := BF2.out.cells
      obtain ⟨m0, m1, m2, m3, m4, m5, m6⟩ := BM2.out.cells
      go_wp2
      go_ret
      exact ⟨ret_i HRR.out.symm, BE2.out⟩
    | true =>
      have H2 := Lib.hid h2
      have HNM := fun W => Lib.hid (refName_any (textP f.pool m.nm) W (HTX.out _))
      have HDS := fun W => Lib.hid (described_any (textP f.pool m.ds) b W (HTX.out _))
      have HRR := Lib.hid (show namedE f.pool m b = if nameL (L (textP f.pool m.nm)) = true then descE b (textP f.pool m.ds) else 8 by unfold namedE; rw [h1, h2]; rfl)
      clear h1 h2
      obtain ⟨nb, hnb⟩ : ∃ q, nameL (L (textP f.pool m.nm)) = q := ⟨_, rfl⟩
      obtain ⟨de, hde⟩ : ∃ q, descE b (textP f.pool m.ds) = q := ⟨_, rfl⟩
      rw [hnb, hde] at HRR
      rw [hnb] at HNM
      rw [hde] at HDS
      clear hnb hde
      cases nb with
      | false =>
        go_enter Try.func92, Try.ntmps92
        go_wp2_with fail
        refine (HT.out true _ _ FL0.out (Nat.le_trans hB BE0.out.size) _ H1.out).mono ?_
        rintro e w1 ⟨rfl, hb⟩
        have BE1 := Lib.hid (Below.link BE0.out hb)
        have FL1 := Lib.hid (FL0.out.below hb (Nat.le_trans hB BE0.out.size))
        have BF1 := Lib.hid (BF0.out.below hb BF0.out.lt)
        have BM1 := Lib.hid (BM0.out.below hb BM0.out.lt)
        have ltf1 := BF1.out.lt
        have ltm1 := BM1.out.lt
        clear hb
        obtain ⟨c0, c1, c2, c3, c4, c5, c6⟩ := BF1.out.cells
        obtain ⟨m0, m1, m2, m3, m4, m5, m6⟩ := BM1.out.cells
        go_wp2_with fail
        refine (HT.out true _ _ FL1.out (Nat.le_trans hB BE1.out.size) _ H2.out).mono ?_
        rintro e w2 ⟨rfl, hb⟩
        have BE2 := Lib.hid (Below.link BE1.out hb)
        have FL2 := Lib.hid (FL1.out.below hb (Nat.le_trans hB BE1.out.size))
        have BF2 := Lib.hid (BF1.out.below hb BF1.out.lt)
        have BM2 := Lib.hid (BM1.out.below hb BM1.out.lt)
        have ltf2 := BF2.out.lt
        have ltm2 := BM2.out.lt
        clear hb
        clear c0 c1 c2 c3 c4 c5 c6 m0 m1 m2 m3 m4 m5 m6
        obtain ⟨c0, c1, c2, c3, c4, c5, c6⟩ := BF2.out.cells
        obtain ⟨m0, m1, m2, m3, m4, m5, m6⟩ := BM2.out.cells
        go_wp2_with fail
        refine (HX.out _ _ FL2.out (Nat.le_trans hB BE2.out.size) _ H1.out).mono ?_
        rintro e w3 ⟨rfl, hb⟩
        have BE3 := Lib.hid (Below.link BE2.out hb)
        have FL3 := Lib.hid (FL2.out.below hb (Nat.le_trans hB BE2.out.size))
        have BF3 := Lib.hid (BF2.out.below hb BF2.out.lt)
        have BM3 := Lib.hid (BM2.out.below hb BM2.out.lt)
        have ltf3 := BF3.out.lt
        have ltm3 := BM3.out.lt
        clear hb
        clear c0 c1 c2 c3 c4 c5 c6 m0 m1 m2 m3 m4 m5 m6
        obtain ⟨c0, c1, c2, c3, c4, c5, c6⟩ := BF3.out.cells
        obtain ⟨m0, m1, m2, m3, m4, m5, m6⟩ := BM3.out.cells
        go_wp2_with fail
        refine ((HNM _).out).mono ?_
        rintro e w4 ⟨rfl, hb⟩
        have BE4 := Lib.hid (Below.link BE3.out hb)
        have FL4 := Lib.hid (FL3.out.below hb (Nat.le_trans hB BE3.out.size))
        have BF4 := Lib.hid (BF3.out.below hb BF3.out.lt)
        have BM4 := Lib.hid (BM3.out.below hb BM3.out.lt)
        have ltf4 := BF4.out.lt
        have ltm4 := BM4.out.lt
        clear hb
        clear c0 c1 c2 c3 c4 c5 c6 m0 m1 m2 m3 m4 m5 m6
        obtain ⟨c0, c1, c2, c3, c4, c5, c6⟩ := BF4.out.cells
        obtain ⟨m0, m1, m2, m3, m4, m5, m6⟩ := BM4.out.cells
        go_wp2
        go_ret
        exact ⟨ret_i (by rw [HRR.out]; rfl), BE4.out⟩
      | true =>
        go_enter Try.func92, Try.ntmps92
        go_wp2_with fail
        refine (HT.out true _ _ FL0.out (Nat.le_trans hB BE0.out.size) _ H1.out).mono ?_
        rintro e w1 ⟨rfl, hb⟩
        have BE1 := Lib.hid (Below.link BE0.out hb)
        have FL1 := Lib.hid (FL0.out.below hb (Nat.le_trans hB BE0.out.size))
        have BF1 := Lib.hid (BF0.out.below hb BF0.out.lt)
        have BM1 := Lib.hid (BM0.out.below hb BM0.out.lt)
        have ltf1 := BF1.out.lt
        have ltm1 := BM1.out.lt
        clear hb
        obtain ⟨c0, c1, c2, c3, c4, c5, c6⟩ := BF1.out.cells
        obtain ⟨m0, m1, m2, m3, m4, m5, m6⟩ := BM1.out.cells
        go_wp2_with fail
        refine (HT.out true _ _ FL1.out (Nat.le_trans hB BE1.out.size) _ H2.out).mono ?_
        rintro e w2 ⟨rfl, hb⟩
        have BE2 := Lib.hid (Below.link BE1.out hb)
        have FL2 := Lib.hid (FL1.out.below hb (Nat.le_trans hB BE1.out.size))
        have BF2 := Lib.hid (BF1.out.below hb BF1.out.lt)
        have BM2 := Lib.hid (BM1.out.below hb BM1.out.lt)
        have ltf2 := BF2.out.lt
        have ltm2 := BM2.out.lt
        clear hb
        clear c0 c1 c2 c3 c4 c5 c6 m0 m1 m2 m3 m4 m5 m6
        obtain ⟨c0, c1, c2, c3, c4, c5, c6⟩ := BF2.out.cells
        obtain ⟨m0, m1, m2, m3, m4, m5, m6⟩ := BM2.out.cells
        go_wp2_with fail
        refine (HX.out _ _ FL2.out (Nat.le_trans hB BE2.out.size) _ H1.out).mono ?_
        rintro e w3 ⟨rfl, hb⟩
        have BE3 := Lib.hid (Below.link BE2.out hb)
        have FL3 := Lib.hid (FL2.out.below hb (Nat.le_trans hB BE2.out.size))
        have BF3 := Lib.hid (BF2.out.below hb BF2.out.lt)
        have BM3 := Lib.hid (BM2.out.below hb BM2.out.lt)
        have ltf3 := BF3.out.lt
        have ltm3 := BM3.out.lt
        clear hb
        clear c0 c1 c2 c3 c4 c5 c6 m0 m1 m2 m3 m4 m5 m6
        obtain ⟨c0, c1, c2, c3, c4, c5, c6⟩ := BF3.out.cells
        obtain ⟨m0, m1, m2, m3, m4, m5, m6⟩ := BM3.out.cells
        go_wp2_with fail
        refine ((HNM _).out).mono ?_
        rintro e w4 ⟨rfl, hb⟩
        have BE4 := Lib.hid (Below.link BE3.out hb)
        have FL4 := Lib.hid (FL3.out.below hb (Nat.le_trans hB BE3.out.size))
        have BF4 := Lib.hid (BF3.out.below hb BF3.out.lt)
        have BM4 := Lib.hid (BM3.out.below hb BM3.out.lt)
        have ltf4 := BF4.out.lt
        have ltm4 := BM4.out.lt
        clear hb
        clear c0 c1 c2 c3 c4 c5 c6 m0 m1 m2 m3 m4 m5 m6
        obtain ⟨c0, c1, c2, c3, c4, c5, c6⟩ := BF4.out.cells
        obtain ⟨m0, m1, m2, m3, m4, m5, m6⟩ := BM4.out.cells
        go_wp2_with fail
        refine (HX.out _ _ FL4.out (Nat.le_trans hB BE4.out.size) _ H2.out).mono ?_
        rintro e w5 ⟨rfl, hb⟩
        have BE5 := Lib.hid (Below.link BE4.out hb)
        have FL5 := Lib.hid (FL4.out.below hb (Nat.le_trans hB BE4.out.size))
        have BF5 := Lib.hid (BF4.out.below hb BF4.out.lt)
        have BM5 := Lib.hid (BM4.out.below hb BM4.out.lt)
        have ltf5 := BF5.out.lt
        have ltm5 := BM5.out.lt
        clear hb
        clear c0 c1 c2 c3 c4 c5 c6 m0 m1 m2 m3 m4 m5 m6
        obtain ⟨c0, c1, c2, c3, c4, c5, c6⟩ := BF5.out.cells
        obtain ⟨m0, m1, m2, m3, m4, m5, m6⟩ := BM5.out.cells
        go_wp2_with fail
        refine ((HDS _).out).mono ?_
        rintro e w6 ⟨rfl, hb⟩
        have BE6 := Lib.hid (Below.link BE5.out hb)
        have FL6 := Lib.hid (FL5.out.below hb (Nat.le_trans hB BE5.out.size))
        have BF6 := Lib.hid (BF5.out.below hb BF5.out.lt)
        have BM6 := Lib.hid (BM5.out.below hb BM5.out.lt)
        have ltf6 := BF6.out.lt
        have ltm6 := BM6.out.lt
        clear hb
        clear c0 c1 c2 c3 c4 c5 c6 m0 m1 m2 m3 m4 m5 m6
        obtain ⟨c0, c1, c2, c3, c4, c5, c6⟩ := BF6.out.cells
        obtain ⟨m0, m1, m2, m3, m4, m5, m6⟩ := BM6.out.cells
        go_wp2
        go_ret
        exact ⟨ret_i (by rw [HRR.out]; rfl), BE6.out⟩
theorem flagE (f : Fl) (h : f.fl = 0 ∨ f.fl = 2 ∨ f.fl = 3) : classE f = if tagged f.pool f.this 4 = true then (if noneB f.pool f.super = true then (if 16 < f.ifs.length then 3 else if f.ifs.all (fun i => tagged f.pool i 4) = true then 0 else 7) else 7) else 7 := by
  unfold classE
  rw [if_pos h]
set_option maxRecDepth 1000000 in
set_option maxHeartbeats 12800000 in
theorem refHead_in {B : Nat} (f : Fl) (v : Value) (w : World) (hf : FileAt B w v f) (hB : B ≤ w.heap.size) (h1 : tagged f.pool f.this 4 = true) (h2 : noneB f.pool f.super = true) (hfl : f.fl = 0 ∨ f.fl = 2 ∨ f.fl = 3) :
    Calls Try.prog 60 #[v] w fun e w' => e = .returned (.int .i64 (classE f)) ∧ Below w.heap.size w w' := by
  have HR := Lib.hid (show classE f = if 16 < f.ifs.length then 3 else if f.ifs.all (fun i => tagged f.pool i 4) = true then 0 else 7 by rw [flagE f hfl, if_pos h1, if_pos h2])
  obtain ⟨hm1, hm2, hm3, hm4⟩ := hf.max
  have HT := Lib.hid (fun r V W hW hWB i h => refTagged_at (B := B) r f V W hW hWB i 4 h)
  obtain ⟨Ap, cp, Ai, ci, Af, cf, Am, cm, rfl, hi⟩ := id hf
  have HI := Lib.hid hi
  have FL0 := Lib.hid (hf.alloc hB (.cells #[.slice Ap f.pool.length cp, .int .i64 f.fl, .int .i64 f.this, .int .i64 f.super, .slice Ai f.ifs.length ci, .slice Af f.fds.length cf, .slice Am f.mts.length cm] 26))
  have BE0 := Lib.hid ((Below.refl w.heap.size w).alloc (Nat.le_refl _) (.cells #[.slice Ap f.pool.length cp, .int .i64 f.fl, .int .i64 f.this, .int .i64 f.super, .slice Ai f.ifs.length ci, .slice Af f.fds.length cf, .slice Am f.mts.length cm] 26))
  have BF0 := Lib.hid (FBox.new Ap cp Ai ci Af cf Am cm f w)
  have H1 := Lib.hid h1
  have H2 := Lib.hid h2
  obtain ⟨t2, ht2⟩ : ∃ t, tagged f.pool f.super 4 = t := ⟨_, rfl⟩
  have HT2 := Lib.hid ht2
  have hsup : (f.super = 0 ∨ (f.super ≠ 0 ∧ t2 = true)) := by
    unfold noneB at h2
    rw [ht2] at h2
    simp only [Bool.or_eq_true, decide_eq_true_eq] at h2
    by_cases h : f.super = 0
    · exact .inl h
    · exact .inr ⟨h, h2.resolve_left h⟩
  clear hi hf h1 h2 ht2
  have key : (f.fl == 0) = true ∨ (((f.fl == 0) = false) ∧ ((f.fl == 2) = true ∨ ((f.fl == 2) = false ∧ (f.fl == 3) = true))) := by
    rcases hfl with h | h | h <;> simp [h]
  clear hfl
  have ksup : (f.super == 0) = true ∨ ((f.super == 0) = false ∧ t2 = true) := by
    rcases hsup with h | ⟨h, h'⟩
    · exact .inl (by simpa using h)
    · exact .inr ⟨by simpa using h, h'⟩
  clear hsup
  rcases key with k0 | ⟨k0, k2 | ⟨k2, k3⟩⟩
  all_goals
    rcases ksup with s0 | ⟨s0, rfl⟩
    all_goals
      have k0' : (f.fl != 0) = !(f.fl == 0) := rfl
      have k2' : (f.fl != 2) = !(f.fl == 2) := rfl
      have k3' : (f.fl != 3) = !(f.fl == 3) := rfl
      have s0' : (f.super != 0) = !(f.super == 0) := rfl
      rw [k0] at k0'
      first | rw [k2] at k2' | clear k2'
      first | rw [k3] at k3' | clear k3'
      rw [s0] at s0'
      simp only [Bool.not_true, Bool.not_false] at *
      go_enter Try.func60, Try.ntmps60
      go_wp2_with fail
      refine (HT.out true _ _ FL0.out (Nat.le_trans hB BE0.out.size) _ H1.out).mono ?_
      rintro e w1 ⟨rfl, hb⟩
      have BE1 := Lib.hid (Below.link BE0.out hb)
      have FL1 := Lib.hid (FL0.out.below hb (Nat.le_trans hB BE0.out.size))
      have BF1 := Lib.hid (BF0.out.below hb BF0.out.lt)
      have ltf1 := BF1.out.lt
      clear hb
      obtain ⟨c0, c1, c2, c3, c4, c5, c6⟩ := BF1.out.cells
      go_wp2_with fail
      refine (HT.out _ _ _ FL1.out (Nat.le_trans hB BE1.out.size) _ HT2.out).mono ?_
      rintro e w2 ⟨rfl, hb⟩
      have BE2 := Lib.hid (Below.link BE1.out hb)
      have FL2 := Lib.hid (FL1.out.below hb (Nat.le_trans hB BE1.out.size))
      have BF2 := Lib.hid (BF1.out.below hb BF1.out.lt)
      have ltf2 := BF2.out.lt
      clear hb
      clear c0 c1 c2 c3 c4 c5 c6
      obtain ⟨c0, c1, c2, c3, c4, c5, c6⟩ := BF2.out.cells
      by_cases h16 : 16 < f.ifs.length
      · have h16' : (16 : Int) < (f.ifs.length : Int) := by omega
        have HRR := Lib.hid (show classE f = 3 by rw [HR.out, if_pos h16])
        clear h16
        go_wp2
        go_ret
        exact ⟨ret_i HRR.out.symm, BE2.out⟩
      · have h16' : (f.ifs.length : Int) ≤ 16 := by omega
        have HRR := Lib.hid (show classE f = if f.ifs.all (fun i => tagged f.pool i 4) = true then 0 else 7 by rw [HR.out, if_neg h16])
        clear h16
        go_wp2
        go_loopg [5] f.ifs.length (fun g i wx => ∃ k : Nat, i = .int .i64 k ∧ k + g = f.ifs.length ∧ (∀ (j : Nat) (t : Int), j < k → f.ifs[j]? = some t → tagged f.pool t 4 = true) ∧ Below w2.heap.size w2 wx)
        case atStart => exact ⟨0, rfl, by omega, fun j t hj => by omega, Below.refl _ _⟩
        case round =>
          obtain ⟨k, rfl, hkg, hok, hb⟩ := hrel
          have HOK := Lib.hid hok
          have BE3 := Lib.hid (Below.link BE2.out hb)
          have FL3 := Lib.hid (FL2.out.below hb (Nat.le_trans hB BE2.out.size))
          have BF3 := Lib.hid (BF2.out.below hb BF2.out.lt)
          have B23 := Lib.hid hb
          have hs23 := hb.size
          have ltf3 := BF3.out.lt
          clear hb hok c0 c1 c2 c3 c4 c5 c6
          obtain ⟨c0, c1, c2, c3, c4, c5, c6⟩ := BF3.out.cells
          by_cases hlt : k < f.ifs.length
          · have hgg : gk - 1 < gk := by omega
            have hx := List.getElem?_eq_getElem hlt
            generalize f.ifs[k] = x at hx
            have HI3 := HI.out.keep (w' := wr) (fun p hp => BE3.out.cell (p := p) (by omega))
            obtain ⟨b2, o2, rfl, hb2, x0⟩ := HI3.ifs.at_ hx
            have HX := Lib.hid hx
            obtain ⟨tx, htx⟩ : ∃ t, tagged f.pool x 4 = t := ⟨_, rfl⟩
            have HTX := Lib.hid htx
            have FLd := FL3.out.drew
            have BEd := BE3.out
            have BFd := BF3.out
            have hsz : w.heap.size + 1 ≤ wr.heap.size := by omega
            have hwk : IntKind.i64.wrap (k : Int) = k := IntWalk.i64_in _ (by omega)
            have hb2w : b2 < w.heap.size + 1 := by omega
            clear hx HI3 htx
            go_wp2
            go_region_held3 (fun w' => w'.cell? ⟨w.heap.size, 0, none⟩ = some (.slice Ap f.pool.length cp) ∧ w'.cell? ⟨w.heap.size, 1, none⟩ = some (.int .i64 f.fl) ∧ w'.cell? ⟨w.heap.size, 2, none⟩ = some (.int .i64 f.this) ∧ w'.cell? ⟨w.heap.size, 3, none⟩ = some (.int .i64 f.super) ∧ w'.cell? ⟨w.heap.size, 4, none⟩ = some (.slice (some ⟨b2, o2, none⟩) f.ifs.length ci) ∧ w'.cell? ⟨w.heap.size, 5, none⟩ = some (.slice Af f.fds.length cf) ∧ w'.cell? ⟨w.heap.size, 6, none⟩ = some (.slice Am f.mts.length cm) ∧ w'.cell? ⟨b2, o2 + k, none⟩ = some (.int .i64 x) ∧ FileAt B w' (.agg #[.slice Ap f.pool.length cp, .int .i64 f.fl, .int .i64 f.this, .int .i64 f.super, .slice (some ⟨b2, o2, none⟩) f.ifs.length ci, .slice Af f.fds.length cf, .slice Am f.mts.length cm]) f ∧ w.heap.size + 1 ≤ w'.heap.size ∧ Below w.heap.size w w' ∧ Below w2.heap.size w2 w')
              (first
                | exact ⟨c0, c1, c2, c3, c4, c5, c6, x0, FLd, hsz, BEd.drew, B23.out.drew⟩
                | (go_split_ands
                   refine ⟨?_, ?_, ?_, ?_, ?_, ?_, ?_, ?_, ?_, ?_, ?_, ?_⟩
                   all_goals first
                     | assumption
                     | exact keepc hb (B := w.heap.size + 1) (by omega) (by omega) (by assumption)
                     | exact FileAt.below (by assumption) hb (by omega)
                     | exact Nat.le_trans (by assumption) hb.size
                     | exact Below.link (by assumption) hb))
              ((go_at_call 31; refine (HT.out tx _ _ (by first | assumption | (go_split_ands; assumption)) (by go_split_ands; omega) _ HTX.out).mono ?_; rintro e wi ⟨rfl, hb⟩))
            clear FLd BEd BFd hsz hwk c0 c1 c2 c3 c4 c5 c6 x0
            go_split_ands
            have BI := Lib.hid (show Below w.heap.size w wi by assumption)
            have BI2 := Lib.hid (show Below w2.heap.size w2 wi by assumption)
            cases tx with
            | true =>
              go_wp2
              go_roundg (gk - 1)
              case measure => exact hgg
              case rel =>
                refine ⟨k + 1, by go_num, by omega, fun j t hj ht => ?_, BI2.out⟩
                rcases Nat.lt_or_eq_of_le (Nat.le_of_lt_succ hj) with h | rfl
                · exact HOK.out j t h ht
                · rw [HX.out] at ht; cases ht; exact HTX.out
            | false =>
              have HNO := Lib.hid (show classE f = 7 by
                rw [HRR.out, if_neg]
                intro h
                rw [List.all_eq_true] at h
                have := h x (List.mem_of_getElem? HX.out)
                rw [HTX.out] at this
                cases this)
              go_wp2
              go_ret
              exact ⟨ret_i HNO.out.symm, BI.out⟩
          · have HYES := Lib.hid (show classE f = 0 by
              rw [HRR.out, if_pos]
              rw [List.all_eq_true]
              intro t ht
              obtain ⟨j, hj⟩ := List.mem_iff_getElem?.1 ht
              exact HOK.out j t (by have := (List.getElem?_eq_some_iff.1 hj).1; omega) hj)
            go_wp2
            go_ret
            exact ⟨ret_i HYES.out.symm, BE3.out⟩
set_option maxRecDepth 1000000 in
set_option maxHeartbeats 6400000 in
theorem refHead_any {B : Nat} (f : Fl) (v : Value) (w : World) (hf : FileAt B w v f) (hB : B ≤ w.heap.size) :
    Calls Try.prog 60 #[v] w fun e w' => e = .returned (.int .i64 (classE f)) ∧ Below w.heap.size w w' := by
  by_cases hfl : f.fl = 0 ∨ f.fl = 2 ∨ f.fl = 3
  · cases h1 : tagged f.pool f.this 4 with
    | true =>
      cases h2 : noneB f.pool f.super with
      | true => exact refHead_in f v w hf hB h1 h2 hfl
      | false =>
        have HRR := Lib.hid (show classE f = 7 by rw [flagE f hfl, if_pos h1, if_neg (by rw [h2]; decide)])
        have hs : f.super ≠ 0 ∧ tagged f.pool f.super 4 = false := by
          unfold noneB at h2
          simp only [Bool.or_eq_false_iff, decide_eq_false_iff_not] at h2
          exact h2
        obtain ⟨hm1, hm2, hm3, hm4⟩ := hf.max
        have HT := Lib.hid (fun r V W hW hWB i h => refTagged_at (B := B) r f V W hW hWB i 4 h)
        obtain ⟨Ap, cp, Ai, ci, Af, cf, Am, cm, rfl, hi⟩ := id hf
        have FL0 := Lib.hid (hf.alloc hB (.cells #[.slice Ap f.pool.length cp, .int .i64 f.fl, .int .i64 f.this, .int .i64 f.super, .slice Ai f.ifs.length ci, .slice Af f.fds.length cf, .slice Am f.mts.length cm] 26))
        have BE0 := Lib.hid ((Below.refl w.heap.size w).alloc (Nat.le_refl _) (.cells #[.slice Ap f.pool.length cp, .int .i64 f.fl, .int .i64 f.this, .int .i64 f.super, .slice Ai f.ifs.length ci, .slice Af f.fds.length cf, .slice Am f.mts.length cm] 26))
        have BF0 := Lib.hid (FBox.new Ap cp Ai ci Af cf Am cm f w)
        have H1 := Lib.hid h1
        have HT2 := Lib.hid hs.2
        have s0 : (f.super == 0) = false := by simpa using hs.1
        clear hi hf h1 h2 hs
        have key : (f.fl == 0) = true ∨ (((f.fl == 0) = false) ∧ ((f.fl == 2) = true ∨ ((f.fl == 2) = false ∧ (f.fl == 3) = true))) := by
          rcases hfl with h | h | h <;> simp [h]
        clear hfl
        rcases key with k0 | ⟨k0, k2 | ⟨k2, k3⟩⟩
        all_goals
          have k0' : (f.fl != 0) = !(f.fl == 0) := rfl
          have k2' : (f.fl != 2) = !(f.fl == 2) := rfl
          have k3' : (f.fl != 3) = !(f.fl == 3) := rfl
          have s0' : (f.super != 0) = !(f.super == 0) := rfl
          rw [k0] at k0'
          first | rw [k2] at k2' | clear k2'
          first | rw [k3] at k3' | clear k3'
          first | rw [s0] at s0' | clear s0'
          simp only [Bool.not_true, Bool.not_false] at *
          go_enter Try.func60, Try.ntmps60
          go_wp2_with fail
          refine (HT.out true _ _ FL0.out (Nat.le_trans hB BE0.out.size) _ H1.out).mono ?_
          rintro e w1 ⟨rfl, hb⟩
          have BE1 := Lib.hid (Below.link BE0.out hb)
          have FL1 := Lib.hid (FL0.out.below hb (Nat.le_trans hB BE0.out.size))
          have BF1 := Lib.hid (BF0.out.below hb BF0.out.lt)
          have ltf1 := BF1.out.lt
          clear hb
          obtain ⟨c0, c1, c2, c3, c4, c5, c6⟩ := BF1.out.cells
          go_wp2_with fail
          refine (HT.out _ _ _ FL1.out (Nat.le_trans hB BE1.out.size) _ HT2.out).mono ?_
          rintro e w2 ⟨rfl, hb⟩
          have BE2 := Lib.hid (Below.link BE1.out hb)
          have FL2 := Lib.hid (FL1.out.below hb (Nat.le_trans hB BE1.out.size))
          have BF2 := Lib.hid (BF1.out.below hb BF1.out.lt)
          have ltf2 := BF2.out.lt
          clear hb
          clear c0 c1 c2 c3 c4 c5 c6
          obtain ⟨c0, c1, c2, c3, c4, c5, c6⟩ := BF2.out.cells
          go_wp2
          go_ret
          exact ⟨ret_i HRR.out.symm, BE2.out⟩
    | false =>
      have HRR := Lib.hid (show classE f = 7 by rw [flagE f hfl, if_neg (by rw [h1]; decide)])
      obtain ⟨hm1, hm2, hm3, hm4⟩ := hf.max
      have HT := Lib.hid (fun r V W hW hWB i h => refTagged_at (B := B) r f V W hW hWB i 4 h)
      obtain ⟨Ap, cp, Ai, ci, Af, cf, Am, cm, rfl, hi⟩ := id hf
      have FL0 := Lib.hid (hf.alloc hB (.cells #[.slice Ap f.pool.length cp, .int .i64 f.fl, .int .i64 f.this, .int .i64 f.super, .slice Ai f.ifs.length ci, .slice Af f.fds.length cf, .slice Am f.mts.length cm] 26))
      have BE0 := Lib.hid ((Below.refl w.heap.size w).alloc (Nat.le_refl _) (.cells #[.slice Ap f.pool.length cp, .int .i64 f.fl, .int .i64 f.this, .int .i64 f.super, .slice Ai f.ifs.length ci, .slice Af f.fds.length cf, .slice Am f.mts.length cm] 26))
      have BF0 := Lib.hid (FBox.new Ap cp Ai ci Af cf Am cm f w)
      have H1 := Lib.hid h1
      obtain ⟨t2, ht2⟩ : ∃ t, tagged f.pool f.super 4 = t := ⟨_, rfl⟩
      have HT2 := Lib.hid ht2
      clear hi hf h1 ht2
      have key : (f.fl == 0) = true ∨ (((f.fl == 0) = false) ∧ ((f.fl == 2) = true ∨ ((f.fl == 2) = false ∧ (f.fl == 3) = true))) := by
        rcases hfl with h | h | h <;> simp [h]
      clear hfl
      rcases key with k0 | ⟨k0, k2 | ⟨k2, k3⟩⟩
      all_goals
        obtain ⟨sz, s0⟩ : ∃ q, (f.super == 0) = q := ⟨_, rfl⟩
        have k0' : (f.fl != 0) = !(f.fl == 0) := rfl
        have k2' : (f.fl != 2) = !(f.fl == 2) := rfl
        have k3' : (f.fl != 3) = !(f.fl == 3) := rfl
        have s0' : (f.super != 0) = !(f.super == 0) := rfl
        rw [k0] at k0'
        first | rw [k2] at k2' | clear k2'
        first | rw [k3] at k3' | clear k3'
        first | rw [s0] at s0' | clear s0'
        simp only [Bool.not_true, Bool.not_false] at *
        cases sz
        all_goals
          go_enter Try.func60, Try.ntmps60
          go_wp2_with fail
          refine (HT.out false _ _ FL0.out (Nat.le_trans hB BE0.out.size) _ H1.out).mono ?_
          rintro e w1 ⟨rfl, hb⟩
          have BE1 := Lib.hid (Below.link BE0.out hb)
          have FL1 := Lib.hid (FL0.out.below hb (Nat.le_trans hB BE0.out.size))
          have BF1 := Lib.hid (BF0.out.below hb BF0.out.lt)
          have ltf1 := BF1.out.lt
          clear hb
          obtain ⟨c0, c1, c2, c3, c4, c5, c6⟩ := BF1.out.cells
          go_wp2_with fail
          refine (HT.out _ _ _ FL1.out (Nat.le_trans hB BE1.out.size) _ HT2.out).mono ?_
          rintro e w2 ⟨rfl, hb⟩
          have BE2 := Lib.hid (Below.link BE1.out hb)
          have FL2 := Lib.hid (FL1.out.below hb (Nat.le_trans hB BE1.out.size))
          have BF2 := Lib.hid (BF1.out.below hb BF1.out.lt)
          have ltf2 := BF2.out.lt
          clear hb
          clear c0 c1 c2 c3 c4 c5 c6
          obtain ⟨c0, c1, c2, c3, c4, c5, c6⟩ := BF2.out.cells
          go_wp2
          go_ret
          exact ⟨ret_i HRR.out.symm, BE2.out⟩
  · have HRR := Lib.hid (show classE f = 10 by unfold classE; rw [if_neg hfl])
    obtain ⟨hm1, hm2, hm3, hm4⟩ := hf.max
    have HT := Lib.hid (fun r V W hW hWB i h => refTagged_at (B := B) r f V W hW hWB i 4 h)
    obtain ⟨Ap, cp, Ai, ci, Af, cf, Am, cm, rfl, hi⟩ := id hf
    have FL0 := Lib.hid (hf.alloc hB (.cells #[.slice Ap f.pool.length cp, .int .i64 f.fl, .int .i64 f.this, .int .i64 f.super, .slice Ai f.ifs.length ci, .slice Af f.fds.length cf, .slice Am f.mts.length cm] 26))
    have BE0 := Lib.hid ((Below.refl w.heap.size w).alloc (Nat.le_refl _) (.cells #[.slice Ap f.pool.length cp, .int .i64 f.fl, .int .i64 f.this, .int .i64 f.super, .slice Ai f.ifs.length ci, .slice Af f.fds.length cf, .slice Am f.mts.length cm] 26))
    have BF0 := Lib.hid (FBox.new Ap cp Ai ci Af cf Am cm f w)
    have k0 : (f.fl == 0) = false := by simp; omega
    have k2 : (f.fl == 2) = false := by simp; omega
    have k3 : (f.fl == 3) = false := by simp; omega
    have k0' : (f.fl != 0) = true := by simp; omega
    have k2' : (f.fl != 2) = true := by simp; omega
    have k3' : (f.fl != 3) = true := by simp; omega
    clear hi hf hfl
    go_enter Try.func60, Try.ntmps60
    go_wp2
    go_ret
    exact ⟨ret_i HRR.out.symm, BE0.out⟩
end Go.Proofs.Ytcgloepfnnfioaa
