/-
  WALK of the error of all parts.
-/
import Derived.Test.YtcgloepfnnfioaaE11
set_option linter.unusedVariables false
set_option linter.unusedSimpArgs false
namespace Go.Proofs.Ytcgloepfnnfioaa
open Go.RowKit

def fieldsE (f : Fl) : Int := memsE [hdE f.pool f.fl 1 typeE, extraE] (sameN f.pool) f.fds
def methodsE (f : Fl) : Int := memsE [hdE f.pool f.fl 2 sigE, specE f.pool, bodyE f.pool] (sameM f.pool) f.mts
/-- The first error of a file, but for its length as bytes. -/
def partsE (f : Fl) : Int := if poolE f.pool = 0 then (if classE f = 0 then (if fieldsE f = 0 then methodsE f else fieldsE f) else classE f) else poolE f.pool
theorem classE_fl {f : Fl} (h : classE f = 0) : f.fl = 0 ∨ f.fl = 2 ∨ f.fl = 3 := by
  unfold classE at h
  split at h
  · assumption
  · cases h
theorem ne_beq {z : Int} (h : z ≠ 0) : (z == 0) = false := by simpa using h
set_option maxRecDepth 1000000 in
set_option maxHeartbeats 6400000 in
theorem partsErr_any {B : Nat} (f : Fl) (v : Value) (w : World) (hf : FileAt B w v f) (hB : B ≤ w.heap.size) (ht : Texts f.pool) :
    Calls Try.prog 26 #[v] w fun e w' => e = .returned (.int .i64 (partsE f)) ∧ Below w.heap.size w w' := by
  have HP := Lib.hid (fun V W hW hWB => poolErr_any (B := B) f V W hW hWB ht)
  have HC := Lib.hid (fun V W hW hWB => classErr_any (B := B) f V W hW hWB)
  have memF := Lib.hid (fun (hfl : f.fl = 0 ∨ f.fl = 2 ∨ f.fl = 3) V W hW hWB A cap hm pb hpb h0 h1 => membersF (B := B) f V W hW hWB ht hfl f.fds A cap hm pb hpb h0 h1)
  have memM := Lib.hid (fun (hfl : f.fl = 0 ∨ f.fl = 2 ∨ f.fl = 3) V W hW hWB A cap hm pb hpb h0 h1 h2 => membersM (B := B) f V W hW hWB ht hfl f.mts A cap hm pb hpb h0 h1 h2)
  have HE := Lib.hid (show partsE f = if poolE f.pool = 0 then (if classE f = 0 then (if fieldsE f = 0 then methodsE f else fieldsE f) else classE f) else poolE f.pool from rfl)
  have FLQ := Lib.hid (fun h => classE_fl (f := f) h)
  have memF := Lib.hid (show ∀ (hfl : f.fl = 0 ∨ f.fl = 2 ∨ f.fl = 3) V W (hW : FileAt B W V f) (hWB : B ≤ W.heap.size) A cap (hm : MRow B W (.slice A f.fds.length cap) f.fds) pb (hpb : pb < W.heap.size) (h0 : W.cell? ⟨pb, 0, none⟩ = some (.func (.func 41) #[] #[])) (h1 : W.cell? ⟨pb, 1, none⟩ = some (.func (.func 42) #[] #[])),
    Calls Try.prog 39 #[V, .slice A f.fds.length cap, .func (.func 40) #[] #[], .slice (some ⟨pb, 0, none⟩) 2 2] W fun e w' => e = .returned (.int .i64 (fieldsE f)) ∧ Below W.heap.size W w' from memF.out)
  have memM := Lib.hid (show ∀ (hfl : f.fl = 0 ∨ f.fl = 2 ∨ f.fl = 3) V W (hW : FileAt B W V f) (hWB : B ≤ W.heap.size) A cap (hm : MRow B W (.slice A f.mts.length cap) f.mts) pb (hpb : pb < W.heap.size) (h0 : W.cell? ⟨pb, 0, none⟩ = some (.func (.func 44) #[] #[])) (h1 : W.cell? ⟨pb, 1, none⟩ = some (.func (.func 45) #[] #[])) (h2 : W.cell? ⟨pb, 2, none⟩ = some (.func (.func 46) #[] #[])),
    Calls Try.prog 39 #[V, .slice A f.mts.length cap, .func (.func 43) #[] #[], .slice (some ⟨pb, 0, none⟩) 3 3] W fun e w' => e = .returned (.int .i64 (methodsE f)) ∧ Below W.heap.size W w' from memM.out)
  generalize partsE f = R at *
  generalize poolE f.pool = E1 at *
  generalize classE f = E2 at *
  generalize fieldsE f = E3 at *
  generalize methodsE f = E4 at *
  obtain ⟨Ap, cp, Ai, ci, Af, cf, Am, cm, rfl, hi⟩ := id hf
  have HI := Lib.hid hi
  have BE0 := Lib.hid ((Below.refl w.heap.size w).alloc (Nat.le_refl _) (.cells #[.slice Ap f.pool.length cp, .int .i64 f.fl, .int .i64 f.this, .int .i64 f.super, .slice Ai f.ifs.length ci, .slice Af f.fds.length cf, .slice Am f.mts.length cm] 26))
  have BF0 := Lib.hid (FBox.new Ap cp Ai ci Af cf Am cm f w)
  have FL0 := Lib.hid (hf.alloc hB (.cells #[.slice Ap f.pool.length cp, .int .i64 f.fl, .int .i64 f.this, .int .i64 f.super, .slice Ai f.ifs.length ci, .slice Af f.fds.length cf, .slice Am f.mts.length cm] 26))
  clear hi hf
  by_cases h1 : E1 = 0
  · subst h1
    have HE1 := Lib.hid (show R = if E2 = 0 then (if E3 = 0 then E4 else E3) else E2 by rw [HE.out, if_pos rfl])
    by_cases h2 : E2 = 0
    · subst h2
      have HE2 := Lib.hid (show R = if E3 = 0 then E4 else E3 by rw [HE1.out, if_pos rfl])
      have hfl := FLQ.out rfl
      have MF := Lib.hid (memF.out hfl)
      have MM := Lib.hid (memM.out hfl)
      clear hfl
      by_cases h3 : E3 = 0
      · subst h3
        have HE3 := Lib.hid (show R = E4 by rw [HE2.out, if_pos rfl])
        go_enter Try.func26, Try.ntmps26
        go_wp2_with fail
        refine (HP.out _ _ FL0.out (by simp; omega)).mono ?_
        rintro e w1 ⟨rfl, hb⟩
        have BE1 := Lib.hid (Below.link BE0.out hb)
        have BF1 := Lib.hid (BF0.out.below hb (BF0.out.lt))
        have FL1 := Lib.hid (FL0.out.below hb (Nat.le_trans hB BE0.out.size))
        have lt1 := BF1.out.lt
        clear hb
        obtain ⟨c0, c1, c2, c3, c4, c5, c6⟩ := BF1.out.cells
        go_wp2_with fail
        refine (HC.out _ _ FL1.out (by omega)).mono ?_
        rintro e w2 ⟨rfl, hb⟩
        clear c0 c1 c2 c3 c4 c5 c6
        have BE2 := Lib.hid (Below.link BE1.out hb)
        have BF2 := Lib.hid (BF1.out.below hb (BF1.out.lt))
        have FL2 := Lib.hid (FL1.out.below hb (Nat.le_trans hB BE1.out.size))
        have lt2 := BF2.out.lt
        clear hb
        obtain ⟨c0, c1, c2, c3, c4, c5, c6⟩ := BF2.out.cells
        have FL2' := Lib.hid (FL2.out.alloc (by omega) (.cells #[.func (.func 41) #[] #[], .func (.func 42) #[] #[]] 91))
        have BF2' := Lib.hid (BF2.out.alloc (.cells #[.func (.func 41) #[] #[], .func (.func 42) #[] #[]] 91))
        have BE2' := Lib.hid (BE2.out.alloc (by omega) (.cells #[.func (.func 41) #[] #[], .func (.func 42) #[] #[]] 91))
        have MR2 := Lib.hid (HI.out.fds.keep (w' := w2.alloc (.cells #[.func (.func 41) #[] #[], .func (.func 42) #[] #[]] 91)) fun p hp => BE2'.out.cell (p := p) (by omega))
        go_wp2_with fail
        refine (MF.out _ _ FL2'.out (by simp; omega) _ _ MR2.out w2.heap.size (by simp) (alloc_cells _ _ _ 0) (alloc_cells _ _ _ 1)).mono ?_
        rintro e w3 ⟨rfl, hb⟩
        have BE3 := Lib.hid (Below.link BE2'.out hb)
        have BF3 := Lib.hid (BF2'.out.below hb (BF2'.out.lt))
        have FL3 := Lib.hid (FL2'.out.below hb (by simp; omega))
        have lt3 := BF3.out.lt
        clear hb
        clear c0 c1 c2 c3 c4 c5 c6
        obtain ⟨c0, c1, c2, c3, c4, c5, c6⟩ := BF3.out.cells
        have FL3' := Lib.hid (FL3.out.alloc (by omega) (.cells #[.func (.func 44) #[] #[], .func (.func 45) #[] #[], .func (.func 46) #[] #[]] 91))
        have BE3' := Lib.hid (BE3.out.alloc (by omega) (.cells #[.func (.func 44) #[] #[], .func (.func 45) #[] #[], .func (.func 46) #[] #[]] 91))
        have MR3 := Lib.hid (HI.out.mts.keep (w' := w3.alloc (.cells #[.func (.func 44) #[] #[], .func (.func 45) #[] #[], .func (.func 46) #[] #[]] 91)) fun p hp => BE3'.out.cell (p := p) (by omega))
        go_wp2_with fail
        refine (MM.out _ _ FL3'.out (by simp; omega) _ _ MR3.out w3.heap.size (by simp) (alloc_cells _ _ _ 0) (alloc_cells _ _ _ 1) (alloc_cells _ _ _ 2)).mono ?_
        rintro e w4 ⟨rfl, hb⟩
        have BE4 := Lib.hid (Below.link BE3'.out hb)
        clear hb c0 c1 c2 c3 c4 c5 c6
        go_wp2
        go_ret
        exact ⟨ret_i HE3.out.symm, BE4.out⟩
      · have HE3 := Lib.hid (show R = E3 by rw [HE2.out, if_neg h3])
        have hne := ne_beq h3
        clear h3
        go_enter Try.func26, Try.ntmps26
        go_wp2_with fail
        refine (HP.out _ _ FL0.out (by simp; omega)).mono ?_
        rintro e w1 ⟨rfl, hb⟩
        have BE1 := Lib.hid (Below.link BE0.out hb)
        have BF1 := Lib.hid (BF0.out.below hb (BF0.out.lt))
        have FL1 := Lib.hid (FL0.out.below hb (Nat.le_trans hB BE0.out.size))
        have lt1 := BF1.out.lt
        clear hb
        obtain ⟨c0, c1, c2, c3, c4, c5, c6⟩ := BF1.out.cells
        go_wp2_with fail
        refine (HC.out _ _ FL1.out (by omega)).mono ?_
        rintro e w2 ⟨rfl, hb⟩
        clear c0 c1 c2 c3 c4 c5 c6
        have BE2 := Lib.hid (Below.link BE1.out hb)
        have BF2 := Lib.hid (BF1.out.below hb (BF1.out.lt))
        have FL2 := Lib.hid (FL1.out.below hb (Nat.le_trans hB BE1.out.size))
        have lt2 := BF2.out.lt
        clear hb
        obtain ⟨c0, c1, c2, c3, c4, c5, c6⟩ := BF2.out.cells
        have FL2' := Lib.hid (FL2.out.alloc (by omega) (.cells #[.func (.func 41) #[] #[], .func (.func 42) #[] #[]] 91))
        have BF2' := Lib.hid (BF2.out.alloc (.cells #[.func (.func 41) #[] #[], .func (.func 42) #[] #[]] 91))
        have BE2' := Lib.hid (BE2.out.alloc (by omega) (.cells #[.func (.func 41) #[] #[], .func (.func 42) #[] #[]] 91))
        have MR2 := Lib.hid (HI.out.fds.keep (w' := w2.alloc (.cells #[.func (.func 41) #[] #[], .func (.func 42) #[] #[]] 91)) fun p hp => BE2'.out.cell (p := p) (by omega))
        go_wp2_with fail
        refine (MF.out _ _ FL2'.out (by simp; omega) _ _ MR2.out w2.heap.size (by simp) (alloc_cells _ _ _ 0) (alloc_cells _ _ _ 1)).mono ?_
        rintro e w3 ⟨rfl, hb⟩
        have BE3 := Lib.hid (Below.link BE2'.out hb)
        have BF3 := Lib.hid (BF2'.out.below hb (BF2'.out.lt))
        have FL3 := Lib.hid (FL2'.out.below hb (by simp; omega))
        have lt3 := BF3.out.lt
        clear hb
        clear c0 c1 c2 c3 c4 c5 c6
        obtain ⟨c0, c1, c2, c3, c4, c5, c6⟩ := BF3.out.cells
        go_wp2
        go_ret
        exact ⟨ret_i HE3.out.symm, BE3.out⟩
    · have HE3 := Lib.hid (show R = E2 by rw [HE1.out, if_neg h2])
      have hne := ne_beq h2
      clear h2
      go_enter Try.func26, Try.ntmps26
      go_wp2_with fail
      refine (HP.out _ _ FL0.out (by simp; omega)).mono ?_
      rintro e w1 ⟨rfl, hb⟩
      have BE1 := Lib.hid (Below.link BE0.out hb)
      have BF1 := Lib.hid (BF0.out.below hb (BF0.out.lt))
      have FL1 := Lib.hid (FL0.out.below hb (Nat.le_trans hB BE0.out.size))
      have lt1 := BF1.out.lt
      clear hb
      obtain ⟨c0, c1, c2, c3, c4, c5, c6⟩ := BF1.out.cells
      go_wp2_with fail
      refine (HC.out _ _ FL1.out (by omega)).mono ?_
      rintro e w2 ⟨rfl, hb⟩
      clear c0 c1 c2 c3 c4 c5 c6
      have BE2 := Lib.hid (Below.link BE1.out hb)
      have BF2 := Lib.hid (BF1.out.below hb (BF1.out.lt))
      have FL2 := Lib.hid (FL1.out.below hb (Nat.le_trans hB BE1.out.size))
      have lt2 := BF2.out.lt
      clear hb
      obtain ⟨c0, c1, c2, c3, c4, c5, c6⟩ := BF2.out.cells
      go_wp2
      go_ret
      exact ⟨ret_i HE3.out.symm, BE2.out⟩
  · have HE3 := Lib.hid (show R = E1 by rw [HE.out, if_neg h1])
    have hne := ne_beq h1
    clear h1
    go_enter Try.func26, Try.ntmps26
    go_wp2_with fail
    refine (HP.out _ _ FL0.out (by simp; omega)).mono ?_
    rintro e w1 ⟨rfl, hb⟩
    have BE1 := Lib.hid (Below.link BE0.out hb)
    have BF1 := Lib.hid (BF0.out.below hb (BF0.out.lt))
    have FL1 := Lib.hid (FL0.out.below hb (Nat.le_trans hB BE0.out.size))
    have lt1 := BF1.out.lt
    clear hb
    obtain ⟨c0, c1, c2, c3, c4, c5, c6⟩ := BF1.out.cells
    go_wp2
    go_ret
    exact ⟨ret_i HE3.out.symm, BE1.out⟩
end Go.Proofs.Ytcgloepfnnfioaa
