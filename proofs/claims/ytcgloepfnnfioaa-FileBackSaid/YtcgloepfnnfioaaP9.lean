/-
  WALK of Parse.
-/
import Derived.Test.YtcgloepfnnfioaaP7
import Derived.Test.YtcgloepfnnfioaaQ1
set_option linter.unusedVariables false
set_option linter.unusedSimpArgs false
namespace Go.Proofs.Ytcgloepfnnfioaa
open Go.RowKit

/-- What Parse answers: the error; the file. -/
def leftE (x : Fl × List UInt8 × Int) : Int := if x.2.1 = [] then x.2.2 else failE x.2.2 6
def prsE (l : List UInt8) : Int := if 65536 < l.length then 2 else if leftE (rdF l 0) = 0 then encF (rdF l 0).1 else leftE (rdF l 0)
def zeroF : Fl := ⟨[], 0, 0, 0, [], [], []⟩
def prsF (l : List UInt8) : Fl := if prsE l = 0 then (rdF l 0).1 else zeroF
theorem heap_drew {w : World} {b : Nat} {x : Option Obj} (h : w.heap[b]? = x) : w.drew.heap[b]? = x := h
theorem zero_own (w : World) (base : Nat) : FOwnIs w base none 0 none 0 none 0 none 0 zeroF :=
  ⟨World.ownsRow_nil _ _ _ _, World.ownsRow_nil _ _ _ _, ⟨[], rfl, World.ownsRow_nil _ _ _ _⟩, [], rfl, World.ownsRow_nil _ _ _ _, fun p hp => by simp at hp⟩
set_option maxRecDepth 1000000 in
set_option maxHeartbeats 6400000 in
theorem Parse_any (s : ByteArray) (hs : s.size ≤ 9223372036854775807) (w : World) :
    Calls Try.prog 22 #[.string s] w fun en w' => ∃ a0 c0 a4 c4 a5 c5 a6 c6, en = .returned (.tuple #[flV a0 c0 a4 c4 a5 c5 a6 c6 (prsF (L s)), .int .i64 (prsE (L s))]) ∧ FOwnIs w' w.heap.size a0 c0 a4 c4 a5 c5 a6 c6 (prsF (L s)) ∧ Below w.heap.size w w' := by
  have hsz := size_L s
  have HD := Lib.hid (show prsE (L s) = if 65536 < (L s).length then 2 else if leftE (rdF (L s) 0) = 0 then encF (rdF (L s) 0).1 else leftE (rdF (L s) 0) from rfl)
  have HF := Lib.hid (show prsF (L s) = if prsE (L s) = 0 then (rdF (L s) 0).1 else zeroF from rfl)
  rw [← hsz] at HD
  have HI := Lib.hid (fun r f (h : rdF (L s) 0 = (f, r, 0)) => (rdF_inv h).2)
  generalize prsE (L s) = PE at *
  generalize prsF (L s) = PF at *
  clear hsz
  have BE0 := Lib.hid ((Below.refl w.heap.size w).alloc (Nat.le_refl _) (.cells #[.slice none 0 0, .int .i64 0, .int .i64 0, .int .i64 0, .slice none 0 0, .slice none 0 0, .slice none 0 0] 26))
  have BR0 := Lib.hid (heap_new w (.cells #[.slice none 0 0, .int .i64 0, .int .i64 0, .int .i64 0, .slice none 0 0, .slice none 0 0, .slice none 0 0] 26))
  by_cases hl : 65536 < s.size
  · have hl' : (65536 : Int) < s.size := by omega
    have HE := Lib.hid (show PE = 2 by rw [HD.out, if_pos hl])
    have HZ := Lib.hid (show PF = zeroF by rw [HF.out, HE.out]; rfl)
    clear hl HI HD HF
    go_enter Try.func22, Try.ntmps22
    have BF := Lib.hid BR0.out
    have BL := Lib.hid BE0.out
    go_wp2
    obtain ⟨W, hW⟩ : ∃ W, W = (w.alloc (.cells #[.slice none 0 0, .int .i64 0, .int .i64 0, .int .i64 0, .slice none 0 0, .slice none 0 0, .slice none 0 0] 26)) := ⟨_, rfl⟩
    rw [← hW] at BF BL
    rw [← hW]
    clear hW
    have BV := BF.out
    have t0 := cells_of BV 0
    have t1 := cells_of BV 1
    have t2 := cells_of BV 2
    have t3 := cells_of BV 3
    have t4 := cells_of BV 4
    have t5 := cells_of BV 5
    have t6 := cells_of BV 6
    rw [HE.out, HZ.out]
    exact bodyPost_ret (v := .tuple #[.agg #[.slice none 0 0, .int .i64 0, .int .i64 0, .int .i64 0, .slice none 0 0, .slice none 0 0, .slice none 0 0], .int .i64 2]) (by simp [results, Try.results22, go_sem, t0, t1, t2, t3, t4, t5, t6]) rfl ⟨none, 0, none, 0, none, 0, none, 0, rfl, zero_own _ _, BL.out⟩
  · have HD2 := Lib.hid (HD.out.trans (if_neg hl))
    have hl' : (s.size : Int) ≤ 65536 := by omega
    clear hl HD
    have hq1 : (w.alloc (.cells #[.slice none 0 0, .int .i64 0, .int .i64 0, .int .i64 0, .slice none 0 0, .slice none 0 0, .slice none 0 0] 26)).heap.size = w.heap.size + 1 := by simp
    have RQ0 := Lib.hid (show RBox (w.heap.size + 1) s 0 ((w.alloc (.cells #[.slice none 0 0, .int .i64 0, .int .i64 0, .int .i64 0, .slice none 0 0, .slice none 0 0, .slice none 0 0] 26)).alloc (.cells #[.string s, .int .i64 0] 57)) from heap_new2 w (.cells #[.slice none 0 0, .int .i64 0, .int .i64 0, .int .i64 0, .slice none 0 0, .slice none 0 0, .slice none 0 0] 26) (.cells #[.string s, .int .i64 0] 57))
    have BR1 := Lib.hid (heap_alloc_lt (o := (.cells #[.string s, .int .i64 0] 57)) BR0.out)
    have BE1 := Lib.hid (BE0.out.alloc (by simp) (.cells #[.string s, .int .i64 0] 57))
    have HC1 := Lib.hid (file_any (w.heap.size + 1) s 0 _ RQ0.out)
    obtain ⟨⟨f, x, e⟩, hX⟩ : ∃ T, rdF (L s) 0 = T := ⟨_, rfl⟩
    rw [hX] at HC1 HD2 HF
    simp only at HC1 HD2 HF
    have HX := Lib.hid hX
    clear hX
    go_enter Try.func22, Try.ntmps22
    go_wp2_with fail
    refine (HC1.out).mono ?_
    rintro en w1 ⟨a0, c0, a4, c4, a5, c5, a6, c6, sb, rfl, hown, hsb, hr, hu⟩
    unfold flV
    have hsz1 := hu.size
    have hsz2 : ((w.alloc (.cells #[.slice none 0 0, .int .i64 0, .int .i64 0, .int .i64 0, .slice none 0 0, .slice none 0 0, .slice none 0 0] 26)).alloc (.cells #[.string s, .int .i64 0] 57)).heap.size = w.heap.size + 2 := by simp
    rw [hsz2] at hsz1 hown
    have R1 := Lib.hid (hr.alloc (.cells #[.slice a0 f.pool.length c0, .int .i64 f.fl, .int .i64 f.this, .int .i64 f.super, .slice a4 f.ifs.length c4, .slice a5 f.fds.length c5, .slice a6 f.mts.length c6] 26))
    have BR2 := Lib.hid (heap_alloc_lt (o := (.cells #[.slice a0 f.pool.length c0, .int .i64 f.fl, .int .i64 f.this, .int .i64 f.super, .slice a4 f.ifs.length c4, .slice a5 f.fds.length c5, .slice a6 f.mts.length c6] 26)) ((hu.block w.heap.size (by rw [hsz2]; omega) (by omega)).trans BR1.out))
    have BF2 := Lib.hid (heap_new w1 (.cells #[.slice a0 f.pool.length c0, .int .i64 f.fl, .int .i64 f.this, .int .i64 f.super, .slice a4 f.ifs.length c4, .slice a5 f.fds.length c5, .slice a6 f.mts.length c6] 26))
    have BE2 := Lib.hid (((BE1.out.trans (hu.below (by omega) |>.mono (by omega)))).alloc (by omega) (.cells #[.slice a0 f.pool.length c0, .int .i64 f.fl, .int .i64 f.this, .int .i64 f.super, .slice a4 f.ifs.length c4, .slice a5 f.fds.length c5, .slice a6 f.mts.length c6] 26))
    have OW2 := Lib.hid (hown.alloc (.cells #[.slice a0 f.pool.length c0, .int .i64 f.fl, .int .i64 f.this, .int .i64 f.super, .slice a4 f.ifs.length c4, .slice a5 f.fds.length c5, .slice a6 f.mts.length c6] 26))
    have HSB := Lib.hid hsb
    have HFA := Lib.hid (OW2.out.fileAt)
    clear hown hsb hr hu HC1
    obtain ⟨q0, q1⟩ := R1.out.cells
    have ltq := R1.out.lt
    have hlx : ∀ u : ByteArray, u.size = (L u).length := size_L
    by_cases hx0 : x = []
    · have hsb0 : sb = ⟨#[]⟩ := by
        have h1 := HSB.out
        rw [hx0] at h1
        rw [← mkB_L sb, h1]
        rfl
      subst hsb0
      clear hlx
      by_cases he0 : e = 0
      · subst he0
        have HSX := Lib.hid hx0
        have ht := HI.out _ _ (by rw [HX.out])
        have HRI := Lib.hid (Right_file (B := (w1.alloc (.cells #[.slice a0 f.pool.length c0, .int .i64 f.fl, .int .i64 f.this, .int .i64 f.super, .slice a4 f.ifs.length c4, .slice a5 f.fds.length c5, .slice a6 f.mts.length c6] 26)).heap.size) f _ _ HFA.out (Nat.le_refl _) (fun c hc => by have := ht c hc; omega))
        clear ht hx0
        unfold flV at HRI
        have f0 : (w1.alloc (.cells #[.slice a0 f.pool.length c0, .int .i64 f.fl, .int .i64 f.this, .int .i64 f.super, .slice a4 f.ifs.length c4, .slice a5 f.fds.length c5, .slice a6 f.mts.length c6] 26)).cell? ⟨w1.heap.size, 0, none⟩ = some (.slice a0 f.pool.length c0) := cells_of BF2.out 0
        have f1 : (w1.alloc (.cells #[.slice a0 f.pool.length c0, .int .i64 f.fl, .int .i64 f.this, .int .i64 f.super, .slice a4 f.ifs.length c4, .slice a5 f.fds.length c5, .slice a6 f.mts.length c6] 26)).cell? ⟨w1.heap.size, 1, none⟩ = some (.int .i64 f.fl) := cells_of BF2.out 1
        have f2 : (w1.alloc (.cells #[.slice a0 f.pool.length c0, .int .i64 f.fl, .int .i64 f.this, .int .i64 f.super, .slice a4 f.ifs.length c4, .slice a5 f.fds.length c5, .slice a6 f.mts.length c6] 26)).cell? ⟨w1.heap.size, 2, none⟩ = some (.int .i64 f.this) := cells_of BF2.out 2
        have f3 : (w1.alloc (.cells #[.slice a0 f.pool.length c0, .int .i64 f.fl, .int .i64 f.this, .int .i64 f.super, .slice a4 f.ifs.length c4, .slice a5 f.fds.length c5, .slice a6 f.mts.length c6] 26)).cell? ⟨w1.heap.size, 3, none⟩ = some (.int .i64 f.super) := cells_of BF2.out 3
        have f4 : (w1.alloc (.cells #[.slice a0 f.pool.length c0, .int .i64 f.fl, .int .i64 f.this, .int .i64 f.super, .slice a4 f.ifs.length c4, .slice a5 f.fds.length c5, .slice a6 f.mts.length c6] 26)).cell? ⟨w1.heap.size, 4, none⟩ = some (.slice a4 f.ifs.length c4) := cells_of BF2.out 4
        have f5 : (w1.alloc (.cells #[.slice a0 f.pool.length c0, .int .i64 f.fl, .int .i64 f.this, .int .i64 f.super, .slice a4 f.ifs.length c4, .slice a5 f.fds.length c5, .slice a6 f.mts.length c6] 26)).cell? ⟨w1.heap.size, 5, none⟩ = some (.slice a5 f.fds.length c5) := cells_of BF2.out 5
        have f6 : (w1.alloc (.cells #[.slice a0 f.pool.length c0, .int .i64 f.fl, .int .i64 f.this, .int .i64 f.super, .slice a4 f.ifs.length c4, .slice a5 f.fds.length c5, .slice a6 f.mts.length c6] 26)).cell? ⟨w1.heap.size, 6, none⟩ = some (.slice a6 f.mts.length c6) := cells_of BF2.out 6
        have ltf := lt_of_block BF2.out
        go_wp2_with fail
        refine (HRI.out).mono ?_
        rintro en w2 ⟨rfl, hb⟩
        clear f0 f1 f2 f3 f4 f5 f6 q0 q1 ltf
        have R2 := Lib.hid (R1.out.below hb)
        have hfq : w2.frozen? ⟨w.heap.size + 1, 1, none⟩ = false := free_of R2.out 1
        obtain ⟨q0, q1⟩ := R2.out.cells
        have ltq2 := R2.out.lt
        have BRy := Below.keep hb (lt_of_block BR2.out) BR2.out
        have BFy := Below.keep hb (lt_of_block BF2.out) BF2.out
        have BEy := BE2.out.trans (hb.mono (by simp; omega))
        have OWy := OW2.out.below hb
        clear hb
        generalize encF f = EF at *
        have SC := Lib.hid (R2.out.set1 (x := EF))
        have BR3 := Lib.hid (show (w2.setCell ⟨w.heap.size + 1, 1, none⟩ (.int .i64 EF)).heap[w.heap.size]? = some (.cells #[.slice none 0 0, .int .i64 0, .int .i64 0, .int .i64 0, .slice none 0 0, .slice none 0 0, .slice none 0 0] 26 (0, 0)) from heap_setCell_ne (by show w.heap.size ≠ w.heap.size + 1; omega) BRy)
        have BF3 := Lib.hid (show (w2.setCell ⟨w.heap.size + 1, 1, none⟩ (.int .i64 EF)).heap[w1.heap.size]? = some (.cells #[.slice a0 f.pool.length c0, .int .i64 f.fl, .int .i64 f.this, .int .i64 f.super, .slice a4 f.ifs.length c4, .slice a5 f.fds.length c5, .slice a6 f.mts.length c6] 26 (0, 0)) from heap_setCell_ne (by show w1.heap.size ≠ w.heap.size + 1; omega) BFy)
        have BE3 := Lib.hid (Below.setCell (p := ⟨w.heap.size + 1, 1, none⟩) BEy (show w.heap.size ≤ w.heap.size + 1 by omega) (.int .i64 EF))
        have OW3 := Lib.hid (OWy.set (i := 1) (u := .int .i64 EF) (show w.heap.size + 1 < w.heap.size + 2 by omega))
        clear BRy BFy BEy OWy
        by_cases hz : EF = 0
        · subst hz
          have HE := Lib.hid (show PE = 0 by rw [HD2.out]; unfold leftE; simp [HSX.out])
          have HZ := Lib.hid (show PF = f by rw [HF.out, HE.out]; rfl)
          have r0 := cells_of BR3.out 0
          have fr0 : (w2.setCell ⟨w.heap.size + 1, 1, none⟩ (.int .i64 0)).frozen? ⟨w.heap.size, 0, none⟩ = false := free_of BR3.out 0
          have r1 := cells_of BR3.out 1
          have fr1 : (w2.setCell ⟨w.heap.size + 1, 1, none⟩ (.int .i64 0)).frozen? ⟨w.heap.size, 1, none⟩ = false := free_of BR3.out 1
          have r2 := cells_of BR3.out 2
          have fr2 : (w2.setCell ⟨w.heap.size + 1, 1, none⟩ (.int .i64 0)).frozen? ⟨w.heap.size, 2, none⟩ = false := free_of BR3.out 2
          have r3 := cells_of BR3.out 3
          have fr3 : (w2.setCell ⟨w.heap.size + 1, 1, none⟩ (.int .i64 0)).frozen? ⟨w.heap.size, 3, none⟩ = false := free_of BR3.out 3
          have r4 := cells_of BR3.out 4
          have fr4 : (w2.setCell ⟨w.heap.size + 1, 1, none⟩ (.int .i64 0)).frozen? ⟨w.heap.size, 4, none⟩ = false := free_of BR3.out 4
          have r5 := cells_of BR3.out 5
          have fr5 : (w2.setCell ⟨w.heap.size + 1, 1, none⟩ (.int .i64 0)).frozen? ⟨w.heap.size, 5, none⟩ = false := free_of BR3.out 5
          have r6 := cells_of BR3.out 6
          have fr6 : (w2.setCell ⟨w.heap.size + 1, 1, none⟩ (.int .i64 0)).frozen? ⟨w.heap.size, 6, none⟩ = false := free_of BR3.out 6
          have ltr := lt_of_block BR3.out
          have f0 : (w2.setCell ⟨w.heap.size + 1, 1, none⟩ (.int .i64 0)).cell? ⟨w1.heap.size, 0, none⟩ = some (.slice a0 f.pool.length c0) := cells_of BF3.out 0
          have f1 : (w2.setCell ⟨w.heap.size + 1, 1, none⟩ (.int .i64 0)).cell? ⟨w1.heap.size, 1, none⟩ = some (.int .i64 f.fl) := cells_of BF3.out 1
          have f2 : (w2.setCell ⟨w.heap.size + 1, 1, none⟩ (.int .i64 0)).cell? ⟨w1.heap.size, 2, none⟩ = some (.int .i64 f.this) := cells_of BF3.out 2
          have f3 : (w2.setCell ⟨w.heap.size + 1, 1, none⟩ (.int .i64 0)).cell? ⟨w1.heap.size, 3, none⟩ = some (.int .i64 f.super) := cells_of BF3.out 3
          have f4 : (w2.setCell ⟨w.heap.size + 1, 1, none⟩ (.int .i64 0)).cell? ⟨w1.heap.size, 4, none⟩ = some (.slice a4 f.ifs.length c4) := cells_of BF3.out 4
          have f5 : (w2.setCell ⟨w.heap.size + 1, 1, none⟩ (.int .i64 0)).cell? ⟨w1.heap.size, 5, none⟩ = some (.slice a5 f.fds.length c5) := cells_of BF3.out 5
          have f6 : (w2.setCell ⟨w.heap.size + 1, 1, none⟩ (.int .i64 0)).cell? ⟨w1.heap.size, 6, none⟩ = some (.slice a6 f.mts.length c6) := cells_of BF3.out 6
          have ltf := lt_of_block BF3.out
          have BF := Lib.hid (heap_set_eq2 (i := 6) (u := .slice a6 f.mts.length c6) (heap_set_eq2 (i := 5) (u := .slice a5 f.fds.length c5) (heap_set_eq2 (i := 4) (u := .slice a4 f.ifs.length c4) (heap_set_eq2 (i := 3) (u := .int .i64 f.super) (heap_set_eq2 (i := 2) (u := .int .i64 f.this) (heap_set_eq2 (i := 1) (u := .int .i64 f.fl) (heap_set_eq2 (i := 0) (u := .slice a0 f.pool.length c0) BR3.out)))))))
          have BL := Lib.hid (Below.setCell (p := ⟨w.heap.size, 6, none⟩) (Below.setCell (p := ⟨w.heap.size, 5, none⟩) (Below.setCell (p := ⟨w.heap.size, 4, none⟩) (Below.setCell (p := ⟨w.heap.size, 3, none⟩) (Below.setCell (p := ⟨w.heap.size, 2, none⟩) (Below.setCell (p := ⟨w.heap.size, 1, none⟩) (Below.setCell (p := ⟨w.heap.size, 0, none⟩) BE3.out (Nat.le_refl _) (.slice a0 f.pool.length c0)) (Nat.le_refl _) (.int .i64 f.fl)) (Nat.le_refl _) (.int .i64 f.this)) (Nat.le_refl _) (.int .i64 f.super)) (Nat.le_refl _) (.slice a4 f.ifs.length c4)) (Nat.le_refl _) (.slice a5 f.fds.length c5)) (Nat.le_refl _) (.slice a6 f.mts.length c6))
          have OF := Lib.hid (FOwnIs.set (b := w.heap.size) (i := 6) (u := .slice a6 f.mts.length c6) (FOwnIs.set (b := w.heap.size) (i := 5) (u := .slice a5 f.fds.length c5) (FOwnIs.set (b := w.heap.size) (i := 4) (u := .slice a4 f.ifs.length c4) (FOwnIs.set (b := w.heap.size) (i := 3) (u := .int .i64 f.super) (FOwnIs.set (b := w.heap.size) (i := 2) (u := .int .i64 f.this) (FOwnIs.set (b := w.heap.size) (i := 1) (u := .int .i64 f.fl) (FOwnIs.set (b := w.heap.size) (i := 0) (u := .slice a0 f.pool.length c0) OW3.out (by omega)) (by omega)) (by omega)) (by omega)) (by omega)) (by omega)) (by omega))
          go_wp2
          obtain ⟨W, hW⟩ : ∃ W, W = ((((((((w2.setCell ⟨w.heap.size + 1, 1, none⟩ (.int .i64 0)).setCell ⟨w.heap.size, 0, none⟩ (.slice a0 f.pool.length c0)).setCell ⟨w.heap.size, 1, none⟩ (.int .i64 f.fl)).setCell ⟨w.heap.size, 2, none⟩ (.int .i64 f.this)).setCell ⟨w.heap.size, 3, none⟩ (.int .i64 f.super)).setCell ⟨w.heap.size, 4, none⟩ (.slice a4 f.ifs.length c4)).setCell ⟨w.heap.size, 5, none⟩ (.slice a5 f.fds.length c5)).setCell ⟨w.heap.size, 6, none⟩ (.slice a6 f.mts.length c6)) := ⟨_, rfl⟩
          rw [← hW] at BF BL OF
          rw [← hW]
          clear hW
          have BV := BF.out
          have t0 := cells_of BV 0
          have t1 := cells_of BV 1
          have t2 := cells_of BV 2
          have t3 := cells_of BV 3
          have t4 := cells_of BV 4
          have t5 := cells_of BV 5
          have t6 := cells_of BV 6
          rw [HE.out, HZ.out]
          exact bodyPost_ret (v := .tuple #[.agg #[.slice a0 f.pool.length c0, .int .i64 f.fl, .int .i64 f.this, .int .i64 f.super, .slice a4 f.ifs.length c4, .slice a5 f.fds.length c5, .slice a6 f.mts.length c6], .int .i64 0]) (by simp [results, Try.results22, go_sem, t0, t1, t2, t3, t4, t5, t6]) rfl ⟨a0, c0, a4, c4, a5, c5, a6, c6, rfl, OF.out.map fun x => own_less x (by omega), BL.out⟩
        · have HE := Lib.hid (show PE = EF by rw [HD2.out]; unfold leftE; simp [HSX.out])
          have HZ := Lib.hid (show PF = zeroF by rw [HF.out, HE.out, if_neg hz])
          have z1 : (EF == 0) = false := by simpa using hz
          have z2 : (EF != 0) = true := by simpa using hz
          clear hz
          have r0 := cells_of BR3.out 0
          have fr0 : (w2.setCell ⟨w.heap.size + 1, 1, none⟩ (.int .i64 EF)).frozen? ⟨w.heap.size, 0, none⟩ = false := free_of BR3.out 0
          have r1 := cells_of BR3.out 1
          have fr1 : (w2.setCell ⟨w.heap.size + 1, 1, none⟩ (.int .i64 EF)).frozen? ⟨w.heap.size, 1, none⟩ = false := free_of BR3.out 1
          have r2 := cells_of BR3.out 2
          have fr2 : (w2.setCell ⟨w.heap.size + 1, 1, none⟩ (.int .i64 EF)).frozen? ⟨w.heap.size, 2, none⟩ = false := free_of BR3.out 2
          have r3 := cells_of BR3.out 3
          have fr3 : (w2.setCell ⟨w.heap.size + 1, 1, none⟩ (.int .i64 EF)).frozen? ⟨w.heap.size, 3, none⟩ = false := free_of BR3.out 3
          have r4 := cells_of BR3.out 4
          have fr4 : (w2.setCell ⟨w.heap.size + 1, 1, none⟩ (.int .i64 EF)).frozen? ⟨w.heap.size, 4, none⟩ = false := free_of BR3.out 4
          have r5 := cells_of BR3.out 5
          have fr5 : (w2.setCell ⟨w.heap.size + 1, 1, none⟩ (.int .i64 EF)).frozen? ⟨w.heap.size, 5, none⟩ = false := free_of BR3.out 5
          have r6 := cells_of BR3.out 6
          have fr6 : (w2.setCell ⟨w.heap.size + 1, 1, none⟩ (.int .i64 EF)).frozen? ⟨w.heap.size, 6, none⟩ = false := free_of BR3.out 6
          have ltr := lt_of_block BR3.out
          obtain ⟨k0, k1⟩ := SC.out.cells
          have ltk := SC.out.lt
          have BF := Lib.hid (heap_drew (heap_set_eq2 (i := 6) (u := .slice none 0 0) (heap_set_eq2 (i := 5) (u := .slice none 0 0) (heap_set_eq2 (i := 4) (u := .slice none 0 0) (heap_set_eq2 (i := 3) (u := .int .i64 0) (heap_set_eq2 (i := 2) (u := .int .i64 0) (heap_set_eq2 (i := 1) (u := .int .i64 0) (heap_set_eq2 (i := 0) (u := .slice none 0 0) BR3.out))))))))
          have BL := Lib.hid ((Below.setCell (p := ⟨w.heap.size, 6, none⟩) (Below.setCell (p := ⟨w.heap.size, 5, none⟩) (Below.setCell (p := ⟨w.heap.size, 4, none⟩) (Below.setCell (p := ⟨w.heap.size, 3, none⟩) (Below.setCell (p := ⟨w.heap.size, 2, none⟩) (Below.setCell (p := ⟨w.heap.size, 1, none⟩) (Below.setCell (p := ⟨w.heap.size, 0, none⟩) BE3.out (Nat.le_refl _) (.slice none 0 0)) (Nat.le_refl _) (.int .i64 0)) (Nat.le_refl _) (.int .i64 0)) (Nat.le_refl _) (.int .i64 0)) (Nat.le_refl _) (.slice none 0 0)) (Nat.le_refl _) (.slice none 0 0)) (Nat.le_refl _) (.slice none 0 0)).drew)
          go_wp2
          go_region
          obtain ⟨W, hW⟩ : ∃ W, W = (((((((((w2.setCell ⟨w.heap.size + 1, 1, none⟩ (.int .i64 EF)).setCell ⟨w.heap.size, 0, none⟩ (.slice none 0 0)).setCell ⟨w.heap.size, 1, none⟩ (.int .i64 0)).setCell ⟨w.heap.size, 2, none⟩ (.int .i64 0)).setCell ⟨w.heap.size, 3, none⟩ (.int .i64 0)).setCell ⟨w.heap.size, 4, none⟩ (.slice none 0 0)).setCell ⟨w.heap.size, 5, none⟩ (.slice none 0 0)).setCell ⟨w.heap.size, 6, none⟩ (.slice none 0 0)).drew) := ⟨_, rfl⟩
          rw [← hW] at BF BL
          rw [← hW]
          clear hW
          have BV := BF.out
          clear q0 q1 ltr r0 fr0 r1 fr1 r2 fr2 r3 fr3 r4 fr4 r5 fr5 r6 fr6
          go_wp2
          have t0 := cells_of BV 0
          have t1 := cells_of BV 1
          have t2 := cells_of BV 2
          have t3 := cells_of BV 3
          have t4 := cells_of BV 4
          have t5 := cells_of BV 5
          have t6 := cells_of BV 6
          rw [HE.out, HZ.out]
          exact bodyPost_ret (v := .tuple #[.agg #[.slice none 0 0, .int .i64 0, .int .i64 0, .int .i64 0, .slice none 0 0, .slice none 0 0, .slice none 0 0], .int .i64 EF]) (by simp [results, Try.results22, go_sem, t0, t1, t2, t3, t4, t5, t6]) rfl ⟨none, 0, none, 0, none, 0, none, 0, rfl, zero_own _ _, BL.out⟩
      · have HE := Lib.hid (show PE = e by rw [HD2.out]; unfold leftE; simp [hx0, he0])
        have HZ := Lib.hid (show PF = zeroF by rw [HF.out, HE.out, if_neg he0])
        have z1 : (e == 0) = false := by simpa using he0
        have z2 : (e != 0) = true := by simpa using he0
        clear he0 hx0
        have r0 := cells_of BR2.out 0
        have fr0 : (w1.alloc (.cells #[.slice a0 f.pool.length c0, .int .i64 f.fl, .int .i64 f.this, .int .i64 f.super, .slice a4 f.ifs.length c4, .slice a5 f.fds.length c5, .slice a6 f.mts.length c6] 26)).frozen? ⟨w.heap.size, 0, none⟩ = false := free_of BR2.out 0
        have r1 := cells_of BR2.out 1
        have fr1 : (w1.alloc (.cells #[.slice a0 f.pool.length c0, .int .i64 f.fl, .int .i64 f.this, .int .i64 f.super, .slice a4 f.ifs.length c4, .slice a5 f.fds.length c5, .slice a6 f.mts.length c6] 26)).frozen? ⟨w.heap.size, 1, none⟩ = false := free_of BR2.out 1
        have r2 := cells_of BR2.out 2
        have fr2 : (w1.alloc (.cells #[.slice a0 f.pool.length c0, .int .i64 f.fl, .int .i64 f.this, .int .i64 f.super, .slice a4 f.ifs.length c4, .slice a5 f.fds.length c5, .slice a6 f.mts.length c6] 26)).frozen? ⟨w.heap.size, 2, none⟩ = false := free_of BR2.out 2
        have r3 := cells_of BR2.out 3
        have fr3 : (w1.alloc (.cells #[.slice a0 f.pool.length c0, .int .i64 f.fl, .int .i64 f.this, .int .i64 f.super, .slice a4 f.ifs.length c4, .slice a5 f.fds.length c5, .slice a6 f.mts.length c6] 26)).frozen? ⟨w.heap.size, 3, none⟩ = false := free_of BR2.out 3
        have r4 := cells_of BR2.out 4
        have fr4 : (w1.alloc (.cells #[.slice a0 f.pool.length c0, .int .i64 f.fl, .int .i64 f.this, .int .i64 f.super, .slice a4 f.ifs.length c4, .slice a5 f.fds.length c5, .slice a6 f.mts.length c6] 26)).frozen? ⟨w.heap.size, 4, none⟩ = false := free_of BR2.out 4
        have r5 := cells_of BR2.out 5
        have fr5 : (w1.alloc (.cells #[.slice a0 f.pool.length c0, .int .i64 f.fl, .int .i64 f.this, .int .i64 f.super, .slice a4 f.ifs.length c4, .slice a5 f.fds.length c5, .slice a6 f.mts.length c6] 26)).frozen? ⟨w.heap.size, 5, none⟩ = false := free_of BR2.out 5
        have r6 := cells_of BR2.out 6
        have fr6 : (w1.alloc (.cells #[.slice a0 f.pool.length c0, .int .i64 f.fl, .int .i64 f.this, .int .i64 f.super, .slice a4 f.ifs.length c4, .slice a5 f.fds.length c5, .slice a6 f.mts.length c6] 26)).frozen? ⟨w.heap.size, 6, none⟩ = false := free_of BR2.out 6
        have ltr := lt_of_block BR2.out
        have BF := Lib.hid (heap_drew (heap_set_eq2 (i := 6) (u := .slice none 0 0) (heap_set_eq2 (i := 5) (u := .slice none 0 0) (heap_set_eq2 (i := 4) (u := .slice none 0 0) (heap_set_eq2 (i := 3) (u := .int .i64 0) (heap_set_eq2 (i := 2) (u := .int .i64 0) (heap_set_eq2 (i := 1) (u := .int .i64 0) (heap_set_eq2 (i := 0) (u := .slice none 0 0) BR2.out))))))))
        have BL := Lib.hid ((Below.setCell (p := ⟨w.heap.size, 6, none⟩) (Below.setCell (p := ⟨w.heap.size, 5, none⟩) (Below.setCell (p := ⟨w.heap.size, 4, none⟩) (Below.setCell (p := ⟨w.heap.size, 3, none⟩) (Below.setCell (p := ⟨w.heap.size, 2, none⟩) (Below.setCell (p := ⟨w.heap.size, 1, none⟩) (Below.setCell (p := ⟨w.heap.size, 0, none⟩) BE2.out (Nat.le_refl _) (.slice none 0 0)) (Nat.le_refl _) (.int .i64 0)) (Nat.le_refl _) (.int .i64 0)) (Nat.le_refl _) (.int .i64 0)) (Nat.le_refl _) (.slice none 0 0)) (Nat.le_refl _) (.slice none 0 0)) (Nat.le_refl _) (.slice none 0 0)).drew)
        go_wp2
        go_region
        obtain ⟨W, hW⟩ : ∃ W, W = (((((((((w1.alloc (.cells #[.slice a0 f.pool.length c0, .int .i64 f.fl, .int .i64 f.this, .int .i64 f.super, .slice a4 f.ifs.length c4, .slice a5 f.fds.length c5, .slice a6 f.mts.length c6] 26)).setCell ⟨w.heap.size, 0, none⟩ (.slice none 0 0)).setCell ⟨w.heap.size, 1, none⟩ (.int .i64 0)).setCell ⟨w.heap.size, 2, none⟩ (.int .i64 0)).setCell ⟨w.heap.size, 3, none⟩ (.int .i64 0)).setCell ⟨w.heap.size, 4, none⟩ (.slice none 0 0)).setCell ⟨w.heap.size, 5, none⟩ (.slice none 0 0)).setCell ⟨w.heap.size, 6, none⟩ (.slice none 0 0)).drew) := ⟨_, rfl⟩
        rw [← hW] at BF BL
        rw [← hW]
        clear hW
        have BV := BF.out
        clear q0 q1 ltr r0 fr0 r1 fr1 r2 fr2 r3 fr3 r4 fr4 r5 fr5 r6 fr6
        go_wp2
        have t0 := cells_of BV 0
        have t1 := cells_of BV 1
        have t2 := cells_of BV 2
        have t3 := cells_of BV 3
        have t4 := cells_of BV 4
        have t5 := cells_of BV 5
        have t6 := cells_of BV 6
        rw [HE.out, HZ.out]
        exact bodyPost_ret (v := .tuple #[.agg #[.slice none 0 0, .int .i64 0, .int .i64 0, .int .i64 0, .slice none 0 0, .slice none 0 0, .slice none 0 0], .int .i64 e]) (by simp [results, Try.results22, go_sem, t0, t1, t2, t3, t4, t5, t6]) rfl ⟨none, 0, none, 0, none, 0, none, 0, rfl, zero_own _ _, BL.out⟩
    · have hne : (sb.toList == []) = false := by
        have := str_beq sb ⟨#[]⟩
        rw [decide_eq_false (fun h => hx0 (by rw [← HSB.out, h] <;> rfl)), show (⟨#[]⟩ : ByteArray).toList = [] from toList_data _] at this
        exact this
      have hne2 : sb.toList.isEmpty = false := by
        cases h : sb.toList with
        | nil => rw [h] at hne; simp at hne
        | cons a l => rfl
      have hne3 : ¬ sb.toList = [] := fun h => by rw [h] at hne; simp at hne
      clear hlx
      have HFC := Lib.hid (fail_any (w.heap.size + 1) sb e 6 _ R1.out)
      have hz : failE e 6 ≠ 0 := by unfold failE; split <;> simp_all
      have HE := Lib.hid (show PE = failE e 6 by rw [HD2.out]; unfold leftE; rw [if_neg hx0, if_neg hz])
      have HZ := Lib.hid (show PF = zeroF by rw [HF.out, HE.out, if_neg hz])
      have z1 : (failE e 6 == 0) = false := by simpa using hz
      have z2 : (failE e 6 != 0) = true := by simpa using hz
      generalize failE e 6 = E6 at *
      clear hz hx0
      go_wp2_with fail
      refine (HFC.out).mono ?_
      rintro en w2 ⟨rfl, hr, hu⟩
      have R2 := Lib.hid hr
      clear q0 q1
      obtain ⟨q0, q1⟩ := R2.out.cells
      have ltq2 := R2.out.lt
      have hszu := hu.size
      have BR3 := Lib.hid ((hu.block w.heap.size (lt_of_block BR2.out) (by omega)).trans BR2.out)
      have BE3 := Lib.hid (BE2.out.trans (hu.below (by simp; omega) |>.mono (by omega)))
      clear hr hu
      have r0 := cells_of BR3.out 0
      have fr0 : w2.frozen? ⟨w.heap.size, 0, none⟩ = false := free_of BR3.out 0
      have r1 := cells_of BR3.out 1
      have fr1 : w2.frozen? ⟨w.heap.size, 1, none⟩ = false := free_of BR3.out 1
      have r2 := cells_of BR3.out 2
      have fr2 : w2.frozen? ⟨w.heap.size, 2, none⟩ = false := free_of BR3.out 2
      have r3 := cells_of BR3.out 3
      have fr3 : w2.frozen? ⟨w.heap.size, 3, none⟩ = false := free_of BR3.out 3
      have r4 := cells_of BR3.out 4
      have fr4 : w2.frozen? ⟨w.heap.size, 4, none⟩ = false := free_of BR3.out 4
      have r5 := cells_of BR3.out 5
      have fr5 : w2.frozen? ⟨w.heap.size, 5, none⟩ = false := free_of BR3.out 5
      have r6 := cells_of BR3.out 6
      have fr6 : w2.frozen? ⟨w.heap.size, 6, none⟩ = false := free_of BR3.out 6
      have ltr := lt_of_block BR3.out
      have BF := Lib.hid (heap_drew (heap_set_eq2 (i := 6) (u := .slice none 0 0) (heap_set_eq2 (i := 5) (u := .slice none 0 0) (heap_set_eq2 (i := 4) (u := .slice none 0 0) (heap_set_eq2 (i := 3) (u := .int .i64 0) (heap_set_eq2 (i := 2) (u := .int .i64 0) (heap_set_eq2 (i := 1) (u := .int .i64 0) (heap_set_eq2 (i := 0) (u := .slice none 0 0) BR3.out))))))))
      have BL := Lib.hid ((Below.setCell (p := ⟨w.heap.size, 6, none⟩) (Below.setCell (p := ⟨w.heap.size, 5, none⟩) (Below.setCell (p := ⟨w.heap.size, 4, none⟩) (Below.setCell (p := ⟨w.heap.size, 3, none⟩) (Below.setCell (p := ⟨w.heap.size, 2, none⟩) (Below.setCell (p := ⟨w.heap.size, 1, none⟩) (Below.setCell (p := ⟨w.heap.size, 0, none⟩) BE3.out (Nat.le_refl _) (.slice none 0 0)) (Nat.le_refl _) (.int .i64 0)) (Nat.le_refl _) (.int .i64 0)) (Nat.le_refl _) (.int .i64 0)) (Nat.le_refl _) (.slice none 0 0)) (Nat.le_refl _) (.slice none 0 0)) (Nat.le_refl _) (.slice none 0 0)).drew)
      go_wp2
      go_region
      obtain ⟨W, hW⟩ : ∃ W, W = ((((((((w2.setCell ⟨w.heap.size, 0, none⟩ (.slice none 0 0)).setCell ⟨w.heap.size, 1, none⟩ (.int .i64 0)).setCell ⟨w.heap.size, 2, none⟩ (.int .i64 0)).setCell ⟨w.heap.size, 3, none⟩ (.int .i64 0)).setCell ⟨w.heap.size, 4, none⟩ (.slice none 0 0)).setCell ⟨w.heap.size, 5, none⟩ (.slice none 0 0)).setCell ⟨w.heap.size, 6, none⟩ (.slice none 0 0)).drew) := ⟨_, rfl⟩
      rw [← hW] at BF BL
      rw [← hW]
      clear hW
      have BV := BF.out
      clear q0 q1 ltr r0 fr0 r1 fr1 r2 fr2 r3 fr3 r4 fr4 r5 fr5 r6 fr6
      go_wp2
      have t0 := cells_of BV 0
      have t1 := cells_of BV 1
      have t2 := cells_of BV 2
      have t3 := cells_of BV 3
      have t4 := cells_of BV 4
      have t5 := cells_of BV 5
      have t6 := cells_of BV 6
      rw [HE.out, HZ.out]
      exact bodyPost_ret (v := .tuple #[.agg #[.slice none 0 0, .int .i64 0, .int .i64 0, .int .i64 0, .slice none 0 0, .slice none 0 0, .slice none 0 0], .int .i64 E6]) (by simp [results, Try.results22, go_sem, t0, t1, t2, t3, t4, t5, t6]) rfl ⟨none, 0, none, 0, none, 0, none, 0, rfl, zero_own _ _, BL.out⟩
end Go.Proofs.Ytcgloepfnnfioaa
