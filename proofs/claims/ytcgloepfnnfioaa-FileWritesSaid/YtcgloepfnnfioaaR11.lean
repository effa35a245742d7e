/-
  WALK of the document's own error of a file's parts.
  WALKS of the document's own Right, Encode and Find.
-/
import Derived.Test.YtcgloepfnnfioaaR3
import Derived.Test.YtcgloepfnnfioaaR6
import Derived.Test.YtcgloepfnnfioaaR10
import Derived.Test.YtcgloepfnnfioaaM2
import Derived.Test.YtcgloepfnnfioaaN1
set_option linter.unusedVariables false
set_option linter.unusedSimpArgs false
namespace Go.Proofs.Ytcgloepfnnfioaa
open Go.RowKit

theorem range_zero {g : Nat → Int} {k : Nat} (h : firstErr g (List.range k) = 0) : ∀ j, j < k → g j = 0 := fun j hj => firstErr_zero h j (List.mem_range.2 hj)
theorem memE_zero {parts : List (Mb → Int)} {same : Mb → Mb → Bool} {ms : List Mb} {k : Nat} {m : Mb} (hm : ms[k]? = some m) (h : memE parts same ms k = 0) : ∀ g ∈ parts, g m = 0 := by
  unfold memE at h
  rw [hm] at h
  simp only at h
  split at h
  · rename_i h0
    exact fun g hg => firstErr_zero h0 g hg
  · rename_i h0
    exact absurd h h0
theorem hdE_tags {p : List Cn} {ffl last : Int} {E : ByteArray → Int} {m : Mb} (h : hdE p ffl last E m = 0) : tagged p m.nm 1 = true ∧ tagged p m.ds 1 = true := by
  unfold hdE at h
  split at h
  · cases h
  · split at h
    · assumption
    · cases h
set_option maxRecDepth 1000000 in
set_option maxHeartbeats 12800000 in
theorem refParts_any {B : Nat} (f : Fl) (v : Value) (w : World) (hf : FileAt B w v f) (hB : B ≤ w.heap.size) (ht : ∀ i, (textP f.pool i).size ≤ 1000000) (hx : ∀ c ∈ f.pool, c.text.size ≤ 1000000) (hcode : True) :
    Calls Try.prog 29 #[v] w fun e w' => e = .returned (.int .i64 (partsE f)) ∧ Below w.heap.size w w' := by
  obtain ⟨hm1, hm2, hm3, hm4⟩ := hf.max
  have HR := Lib.hid (show partsE f = if poolE f.pool = 0 then (if classE f = 0 then (if fieldsE f = 0 then methodsE f else fieldsE f) else classE f) else poolE f.pool from rfl)
  have HPO := Lib.hid (show poolE f.pool = if 2000 < f.pool.length then 3 else firstErr (constE f.pool) f.pool from rfl)
  have HFD := Lib.hid (show fieldsE f = if 200 < f.fds.length then 3 else firstErr (memE [hdE f.pool f.fl 1 typeE, extraE] (sameN f.pool) f.fds) (List.range f.fds.length) from rfl)
  have HMT := Lib.hid (show methodsE f = if 200 < f.mts.length then 3 else firstErr (memE [hdE f.pool f.fl 2 sigE, specE f.pool, bodyE f.pool] (sameM f.pool) f.mts) (List.range f.mts.length) from rfl)
  generalize partsE f = R at *
  have HCO := Lib.hid (fun V W hW hWB c hc => refConst_any (B := B) f V W hW hWB ht c (hx c hc))
  have HHE := Lib.hid (fun V W hW hWB => refHead_any (B := B) f V W hW hWB)
  have HFI := Lib.hid (fun V W hW hWB i m hm hp => refField_mem (B := B) f V W hW hWB ht i m hm hp)
  have HME := Lib.hid (fun V W hW hWB i m hm hp => refMethod_mem (B := B) f V W hW hWB ht i m hm hp)
  obtain ⟨Ap, cp, Ai, ci, Af, cf, Am, cm, rfl, hi⟩ := id hf
  have HI := Lib.hid hi
  have FL0 := Lib.hid (hf.alloc hB (.cells #[.slice Ap f.pool.length cp, .int .i64 f.fl, .int .i64 f.this, .int .i64 f.super, .slice Ai f.ifs.length ci, .slice Af f.fds.length cf, .slice Am f.mts.length cm] 26))
  have BE0 := Lib.hid ((Below.refl w.heap.size w).alloc (Nat.le_refl _) (.cells #[.slice Ap f.pool.length cp, .int .i64 f.fl, .int .i64 f.this, .int .i64 f.super, .slice Ai f.ifs.length ci, .slice Af f.fds.length cf, .slice Am f.mts.length cm] 26))
  have BF0 := Lib.hid (FBox.new Ap cp Ai ci Af cf Am cm f w)
  clear hi hf ht hx
  by_cases hl1 : 2000 < f.pool.length
  · have HRR := Lib.hid (show R = 3 by rw [HR.out, HPO.out, if_pos hl1]; rfl)
    have hl1' : (2000 : Int) < f.pool.length := by omega
    clear hl1
    go_enter Try.func29, Try.ntmps29
    go_wp2
    go_ret
    exact ⟨ret_i HRR.out.symm, BE0.out⟩
  have hl1' : (f.pool.length : Int) ≤ 2000 := by omega
  have HPP := Lib.hid (show poolE f.pool = firstErr (constE f.pool) f.pool by rw [HPO.out, if_neg hl1])
  clear hl1
  go_enter Try.func29, Try.ntmps29
  go_wp2
  go_loopg [3] f.pool.length (fun g iv wx => ∃ k : Nat, iv = .int .i64 k ∧ k + g = f.pool.length ∧ firstErr (constE f.pool) (f.pool.take k) = 0 ∧ FileAt B wx (.agg #[.slice Ap f.pool.length cp, .int .i64 f.fl, .int .i64 f.this, .int .i64 f.super, .slice Ai f.ifs.length ci, .slice Af f.fds.length cf, .slice Am f.mts.length cm]) f ∧ FBox w.heap.size Ap cp Ai ci Af cf Am cm f wx ∧ Below w.heap.size w wx)
  case atStart => exact ⟨0, rfl, by omega, rfl, FL0.out, BF0.out, BE0.out⟩
  case round =>
    obtain ⟨k, rfl, hkg, hfe, hfl, hbf, hbe⟩ := hrel
    have HFE := Lib.hid hfe
    clear hfe
    have FL1 := Lib.hid hfl
    have BF1 := Lib.hid hbf
    have BE1 := Lib.hid hbe
    have ltBF1 := hbf.lt
    clear hfl hbf hbe
    obtain ⟨c0, c1, c2, c3, c4, c5, c6⟩ := BF1.out.cells
    by_cases hlt : k < f.pool.length
    · have hgg : gk - 1 < gk := by omega
      obtain ⟨c, hc⟩ : ∃ c, f.pool[k]? = some c := ⟨_, List.getElem?_eq_getElem hlt⟩
      have HCM := Lib.hid (List.mem_of_getElem? hc)
      have HNX := Lib.hid (firstErr_next (constE f.pool) f.pool k c hc HFE.out)
      have HST := Lib.hid (fun h => firstErr_stop (constE f.pool) f.pool (k + 1) h)
      have hI1 := HI.out.keep (w' := wr) (fun p hp => BE1.out.cell (p := p) (by omega))
      obtain ⟨p0, o0, rfl, hbb, x0, x1, x2, x3, x4, x5⟩ := hI1.pool.at_ hc
      have hwk : IntKind.i64.wrap (k : Int) = k := IntWalk.i64_in _ (by omega)
      have hlk : (k : Int) < f.pool.length := by omega
      have hpw : p0 < w.heap.size + 1 := by omega
      clear hc hI1
      go_wp2
      have FLd := FL1.out.drew
      have BEd := BE1.out
      have BFd := BF1.out
      have hsz : w.heap.size + 1 ≤ wr.heap.size := by omega
      go_region_held3 (fun w' => w'.cell? ⟨w.heap.size, 0, none⟩ = some (.slice (some ⟨p0, o0, none⟩) f.pool.length cp) ∧ w'.cell? ⟨w.heap.size, 1, none⟩ = some (.int .i64 f.fl) ∧ w'.cell? ⟨w.heap.size, 2, none⟩ = some (.int .i64 f.this) ∧ w'.cell? ⟨w.heap.size, 3, none⟩ = some (.int .i64 f.super) ∧ w'.cell? ⟨w.heap.size, 4, none⟩ = some (.slice Ai f.ifs.length ci) ∧ w'.cell? ⟨w.heap.size, 5, none⟩ = some (.slice Af f.fds.length cf) ∧ w'.cell? ⟨w.heap.size, 6, none⟩ = some (.slice Am f.mts.length cm) ∧ w'.cell? ⟨p0, o0 + k * 6, none⟩ = some (.int .i64 c.tag) ∧ w'.cell? ⟨p0, o0 + k * 6 + 1, none⟩ = some (.string c.text) ∧ w'.cell? ⟨p0, o0 + k * 6 + 2, none⟩ = some (.int .i64 c.n) ∧ w'.cell? ⟨p0, o0 + k * 6 + 3, none⟩ = some (.int .i64 c.a) ∧ w'.cell? ⟨p0, o0 + k * 6 + 4, none⟩ = some (.int .i64 c.b) ∧ w'.cell? ⟨p0, o0 + k * 6 + 5, none⟩ = some (.int .i64 c.c) ∧ FileAt B w' (.agg #[.slice (some ⟨p0, o0, none⟩) f.pool.length cp, .int .i64 f.fl, .int .i64 f.this, .int .i64 f.super, .slice Ai f.ifs.length ci, .slice Af f.fds.length cf, .slice Am f.mts.length cm]) f ∧ w.heap.size + 1 ≤ w'.heap.size ∧ Below w.heap.size w w' ∧ FBox w.heap.size (some ⟨p0, o0, none⟩) cp Ai ci Af cf Am cm f w')
        (first
          | exact ⟨c0, c1, c2, c3, c4, c5, c6, x0, x1, x2, x3, x4, x5, FLd, hsz, BEd.drew, BFd.drew⟩
          | (go_split_ands
             refine ⟨?_, ?_, ?_, ?_, ?_, ?_, ?_, ?_, ?_, ?_, ?_, ?_, ?_, ?_, ?_, ?_, ?_⟩
             all_goals first
               | assumption
               | exact keepc hb (B := w.heap.size + 1) (by omega) (by omega) (by assumption)
               | exact FileAt.below (by assumption) hb (by omega)
               | exact Nat.le_trans (by assumption) hb.size
               | exact Below.link (by assumption) hb
               | exact FBox.below (by assumption) hb (by omega)))
        ((go_at_call 59; refine (HCO.out _ _ (by first | assumption | (go_split_ands; assumption)) (by go_split_ands; omega) c HCM.out).mono ?_; rintro e wi ⟨rfl, hb⟩))
      clear FLd BEd BFd hsz c0 c1 c2 c3 c4 c5 c6 x0 x1 x2 x3 x4 x5
      go_split_ands
      have BEI := Lib.hid (show Below w.heap.size w wi by assumption)
      have BFI := Lib.hid (show FBox w.heap.size (some ⟨p0, o0, none⟩) cp Ai ci Af cf Am cm f wi by assumption)
      have FLI := Lib.hid (show FileAt B wi (.agg #[.slice (some ⟨p0, o0, none⟩) f.pool.length cp, .int .i64 f.fl, .int .i64 f.this, .int .i64 f.super, .slice Ai f.ifs.length ci, .slice Af f.fds.length cf, .slice Am f.mts.length cm]) f by assumption)
      by_cases hE : constE f.pool c = 0
      · have ge : (constE f.pool c == 0) = true := by simpa using hE
        have ge' : (constE f.pool c != 0) = false := by simpa using hE
        have HZ := Lib.hid hE
        clear hE
        go_wp2
        go_roundg (gk - 1)
        case measure => exact hgg
        case rel => exact ⟨k + 1, by go_num, by omega, HNX.out.trans HZ.out, FLI.out, BFI.out, BEI.out⟩
      · have ge : (constE f.pool c == 0) = false := by simpa using hE
        have ge' : (constE f.pool c != 0) = true := by simpa using hE
        have HRR := Lib.hid (show R = constE f.pool c by rw [HR.out, HPP.out, HST.out (by rw [HNX.out]; exact hE), HNX.out, if_neg hE])
        clear hE
        go_wp2
        go_ret
        exact ⟨ret_i HRR.out.symm, BEI.out⟩
    · have HALL := Lib.hid (show poolE f.pool = 0 by rw [HPP.out]; have := HFE.out; rwa [List.take_of_length_le (by omega)] at this)
      clear HFE
      have HR1 := Lib.hid (show R = if classE f = 0 then (if fieldsE f = 0 then methodsE f else fieldsE f) else classE f by rw [HR.out, HALL.out]; rfl)
      generalize classE f = CE at *
      go_wp2_with fail
      refine (HHE.out _ _ FL1.out (by omega)).mono ?_
      rintro e w3 ⟨rfl, hb⟩
      have BE3 := Lib.hid (Below.link BE1.out hb)
      have FL3 := Lib.hid (FL1.out.below hb (Nat.le_trans hB BE1.out.size))
      have BF3 := Lib.hid (BF1.out.below hb BF1.out.lt)
      have ltBF3 := BF3.out.lt
      clear hb
      clear c0 c1 c2 c3 c4 c5 c6
      obtain ⟨c0, c1, c2, c3, c4, c5, c6⟩ := BF3.out.cells
      rcases (Classical.em (CE = 0)).symm with hE | hE
      · have ge : (CE == 0) = false := by simpa using hE
        have ge' : (CE != 0) = true := by simpa using hE
        have HRR := Lib.hid (show R = CE by rw [HR1.out, if_neg hE])
        clear hE
        go_wp2
        go_ret
        exact ⟨ret_i HRR.out.symm, BE3.out⟩
      · subst hE
        have HR2 := Lib.hid (show R = if fieldsE f = 0 then methodsE f else fieldsE f by rw [HR1.out]; rfl)
        by_cases hl4 : 200 < f.fds.length
        · have HRR := Lib.hid (show R = 3 by rw [HR2.out, HFD.out, if_pos hl4]; rfl)
          have hl4' : (200 : Int) < f.fds.length := by omega
          clear hl4
          go_wp2
          go_ret
          exact ⟨ret_i HRR.out.symm, BE3.out⟩
        have hl4' : (f.fds.length : Int) ≤ 200 := by omega
        have HL4 := Lib.hid (show fieldsE f = firstErr (memE [hdE f.pool f.fl 1 typeE, extraE] (sameN f.pool) f.fds) (List.range f.fds.length) by rw [HFD.out, if_neg hl4])
        clear hl4
        go_wp2
        go_loopg [6] f.fds.length (fun g iv wx => ∃ k : Nat, iv = .int .i64 k ∧ k + g = f.fds.length ∧ firstErr (memE [hdE f.pool f.fl 1 typeE, extraE] (sameN f.pool) f.fds) (List.range k) = 0 ∧ FileAt B wx (.agg #[.slice Ap f.pool.length cp, .int .i64 f.fl, .int .i64 f.this, .int .i64 f.super, .slice Ai f.ifs.length ci, .slice Af f.fds.length cf, .slice Am f.mts.length cm]) f ∧ FBox w.heap.size Ap cp Ai ci Af cf Am cm f wx ∧ Below w.heap.size w wx)
        case atStart => exact ⟨0, rfl, by omega, rfl, FL3.out, BF3.out, BE3.out⟩
        case round =>
          obtain ⟨k, rfl, hkg, hfe, hfl, hbf, hbe⟩ := hrel
          have HFE := Lib.hid hfe
          clear hfe
          have FL4 := Lib.hid hfl
          have BF4 := Lib.hid hbf
          have BE4 := Lib.hid hbe
          have ltBF4 := hbf.lt
          clear hfl hbf hbe c0 c1 c2 c3 c4 c5 c6
          obtain ⟨c0, c1, c2, c3, c4, c5, c6⟩ := BF4.out.cells
          by_cases hlt : k < f.fds.length
          · have hgg : gk - 1 < gk := by omega
            obtain ⟨m, hm⟩ : ∃ m, f.fds[k]? = some m := ⟨_, List.getElem?_eq_getElem hlt⟩
            have HMM := Lib.hid hm
            have HNX := Lib.hid (range_next HFE.out)
            have HST := Lib.hid (fun E h he => range_over (g := memE [hdE f.pool f.fl 1 typeE, extraE] (sameN f.pool) f.fds) (k := k + 1) (n := f.fds.length) (E := E) (by omega) h he)
            have HPV := Lib.hid (show ∀ j d, j < k → f.fds[j]? = some d → tagged f.pool d.nm 1 = true ∧ tagged f.pool d.ds 1 = true from fun j d hj hd => hdE_tags (memE_zero hd (range_zero HFE.out j hj) _ (List.mem_cons_self ..)))
            clear hm
            generalize hq : memE [hdE f.pool f.fl 1 typeE, extraE] (sameN f.pool) f.fds k = E at HNX
            have HQ := Lib.hid hq
            clear hq
            go_wp2_with fail
            refine (HFI.out _ _ FL4.out (by omega) k m HMM.out (fun j d hj hd => (HPV.out j d hj hd).1)).mono ?_
            rintro e w5 ⟨rfl, hb⟩
            rw [HQ.out]
            have BE5 := Lib.hid (Below.link BE4.out hb)
            have FL5 := Lib.hid (FL4.out.below hb (Nat.le_trans hB BE4.out.size))
            have BF5 := Lib.hid (BF4.out.below hb BF4.out.lt)
            have ltBF5 := BF5.out.lt
            clear hb
            clear c0 c1 c2 c3 c4 c5 c6
            obtain ⟨c0, c1, c2, c3, c4, c5, c6⟩ := BF5.out.cells
            by_cases hE : E = 0
            · subst hE
              go_wp2
              go_roundg (gk - 1)
              case measure => exact hgg
              case rel => exact ⟨k + 1, by go_num, by omega, HNX.out, FL5.out, BF5.out, BE5.out⟩
            · have ge : (E == 0) = false := by simpa using hE
              have ge' : (E != 0) = true := by simpa using hE
              have HRR := Lib.hid (show R = E by rw [HR2.out, HL4.out, HST.out E HNX.out hE, if_neg hE])
              clear hE
              go_wp2
              go_ret
              exact ⟨ret_i HRR.out.symm, BE5.out⟩
          · have HALL := Lib.hid (show fieldsE f = 0 by rw [HL4.out]; have := HFE.out; rwa [show k = f.fds.length by omega] at this)
            have HR3 := Lib.hid (show R = methodsE f by rw [HR2.out, HALL.out]; rfl)
            clear HFE
            by_cases hl6 : 200 < f.mts.length
            · have HRR := Lib.hid (show R = 3 by rw [HR3.out, HMT.out, if_pos hl6])
              have hl6' : (200 : Int) < f.mts.length := by omega
              clear hl6
              go_wp2
              go_ret
              exact ⟨ret_i HRR.out.symm, BE4.out⟩
            have hl6' : (f.mts.length : Int) ≤ 200 := by omega
            have HL6 := Lib.hid (show methodsE f = firstErr (memE [hdE f.pool f.fl 2 sigE, specE f.pool, bodyE f.pool] (sameM f.pool) f.mts) (List.range f.mts.length) by rw [HMT.out, if_neg hl6])
            clear hl6
            go_wp2
            go_loopg [7] f.mts.length (fun g iv wx => ∃ k : Nat, iv = .int .i64 k ∧ k + g = f.mts.length ∧ firstErr (memE [hdE f.pool f.fl 2 sigE, specE f.pool, bodyE f.pool] (sameM f.pool) f.mts) (List.range k) = 0 ∧ FileAt B wx (.agg #[.slice Ap f.pool.length cp, .int .i64 f.fl, .int .i64 f.this, .int .i64 f.super, .slice Ai f.ifs.length ci, .slice Af f.fds.length cf, .slice Am f.mts.length cm]) f ∧ FBox w.heap.size Ap cp Ai ci Af cf Am cm f wx ∧ Below w.heap.size w wx)
            case atStart => exact ⟨0, rfl, by omega, rfl, FL4.out, BF4.out, BE4.out⟩
            case round =>
              obtain ⟨k, rfl, hkg, hfe, hfl, hbf, hbe⟩ := hrel
              have HFE := Lib.hid hfe
              clear hfe
              have FL6 := Lib.hid hfl
              have BF6 := Lib.hid hbf
              have BE6 := Lib.hid hbe
              have ltBF6 := hbf.lt
              clear hfl hbf hbe c0 c1 c2 c3 c4 c5 c6
              obtain ⟨c0, c1, c2, c3, c4, c5, c6⟩ := BF6.out.cells
              by_cases hlt : k < f.mts.length
              · have hgg : gk - 1 < gk := by omega
                obtain ⟨m, hm⟩ : ∃ m, f.mts[k]? = some m := ⟨_, List.getElem?_eq_getElem hlt⟩
                have HMM := Lib.hid hm
                have HNX := Lib.hid (range_next HFE.out)
                have HST := Lib.hid (fun E h he => range_over (g := memE [hdE f.pool f.fl 2 sigE, specE f.pool, bodyE f.pool] (sameM f.pool) f.mts) (k := k + 1) (n := f.mts.length) (E := E) (by omega) h he)
                have HPV := Lib.hid (show ∀ j d, j < k → f.mts[j]? = some d → tagged f.pool d.nm 1 = true ∧ tagged f.pool d.ds 1 = true from fun j d hj hd => hdE_tags (memE_zero hd (range_zero HFE.out j hj) _ (List.mem_cons_self ..)))
                clear hm
                generalize hq : memE [hdE f.pool f.fl 2 sigE, specE f.pool, bodyE f.pool] (sameM f.pool) f.mts k = E at HNX
                have HQ := Lib.hid hq
                clear hq
                go_wp2_with fail
                refine (HME.out _ _ FL6.out (by omega) k m HMM.out HPV.out).mono ?_
                rintro e w7 ⟨rfl, hb⟩
                rw [HQ.out]
                have BE7 := Lib.hid (Below.link BE6.out hb)
                have FL7 := Lib.hid (FL6.out.below hb (Nat.le_trans hB BE6.out.size))
                have BF7 := Lib.hid (BF6.out.below hb BF6.out.lt)
                have ltBF7 := BF7.out.lt
                clear hb
                clear c0 c1 c2 c3 c4 c5 c6
                obtain ⟨c0, c1, c2, c3, c4, c5, c6⟩ := BF7.out.cells
                by_cases hE : E = 0
                · subst hE
                  go_wp2
                  go_roundg (gk - 1)
                  case measure => exact hgg
                  case rel => exact ⟨k + 1, by go_num, by omega, HNX.out, FL7.out, BF7.out, BE7.out⟩
                · have ge : (E == 0) = false := by simpa using hE
                  have ge' : (E != 0) = true := by simpa using hE
                  have HRR := Lib.hid (show R = E by rw [HR3.out, HL6.out, HST.out E HNX.out hE])
                  clear hE
                  go_wp2
                  go_ret
                  exact ⟨ret_i HRR.out.symm, BE7.out⟩
              · have HALL := Lib.hid (show methodsE f = 0 by rw [HL6.out]; have := HFE.out; rwa [show k = f.mts.length by omega] at this)
                have HRR := Lib.hid (show R = 0 by rw [HR3.out, HALL.out])
                go_wp2
                go_ret
                exact ⟨ret_i HRR.out.symm, BE6.out⟩
theorem FindR.unique {g g' : Mb → Bool} {ms : List Mb} {r r' : Int} (h : FindR g ms r) (h' : FindR g' ms r') (hg : ∀ m ∈ ms, g m = g' m) : r = r' := by
  rcases h with ⟨k, m, hm, hgm, hn, rfl⟩ | ⟨hn, rfl⟩
  · rcases h' with ⟨k', m', hm', hgm', hn', rfl⟩ | ⟨hn', rfl⟩
    · rcases Nat.lt_trichotomy k k' with h | rfl | h
      · exact absurd (any_later (g := g') hm h (by rw [← hg m (List.mem_of_getElem? hm)]; exact hgm)) (by rw [hn']; decide)
      · rfl
      · exact absurd (any_later (g := g) hm' h (by rw [hg m' (List.mem_of_getElem? hm')]; exact hgm')) (by rw [hn]; decide)
    · rw [List.any_eq_false] at hn'
      exact absurd ((hg m (List.mem_of_getElem? hm)).symm.trans hgm) (hn' m (List.mem_of_getElem? hm))
  · rcases h' with ⟨k', m', hm', hgm', hn', rfl⟩ | ⟨hn', rfl⟩
    · rw [List.any_eq_false] at hn
      exact absurd ((hg m' (List.mem_of_getElem? hm')).trans hgm') (hn m' (List.mem_of_getElem? hm'))
    · rfl
set_option maxRecDepth 1000000 in
set_option maxHeartbeats 12800000 in
theorem refRight_file {B : Nat} (f : Fl) (v : Value) (w : World) (hf : FileAt B w v f) (hB : B ≤ w.heap.size) (ht : ∀ i, (textP f.pool i).size ≤ 1000000) (hx : ∀ c ∈ f.pool, c.text.size ≤ 1000000) :
    Calls Try.prog 15 #[v] w fun e w' => e = .returned (.int .i64 (encF f)) ∧ Below w.heap.size w w' := by
  have HP := Lib.hid (fun V W hW hWB => refParts_any (B := B) f V W hW hWB ht hx trivial)
  have HA := Lib.hid (fun (h : partsE f = 0) V W hW hWB => refBytes_any (B := B) f V W hW hWB hx (partsE_fine h))
  have HE := Lib.hid (show encF f = if partsE f = 0 then (if (fileN f).length ≤ 65536 then 0 else 2) else partsE f from rfl)
  generalize encF f = E at *
  generalize partsE f = P at *
  obtain ⟨Ap, cp, Ai, ci, Af, cf, Am, cm, rfl, hi⟩ := id hf
  have BE0 := Lib.hid ((Below.refl w.heap.size w).alloc (Nat.le_refl _) (.cells #[.slice Ap f.pool.length cp, .int .i64 f.fl, .int .i64 f.this, .int .i64 f.super, .slice Ai f.ifs.length ci, .slice Af f.fds.length cf, .slice Am f.mts.length cm] 26))
  have BF0 := Lib.hid (FBox.new Ap cp Ai ci Af cf Am cm f w)
  have FL0 := Lib.hid (hf.alloc hB (.cells #[.slice Ap f.pool.length cp, .int .i64 f.fl, .int .i64 f.this, .int .i64 f.super, .slice Ai f.ifs.length ci, .slice Af f.fds.length cf, .slice Am f.mts.length cm] 26))
  clear hi hf ht hx
  by_cases hP : P = 0
  · subst hP
    have HA1 := Lib.hid (HA.out rfl)
    have hsz : (mkB (fileN f)).size = (fileN f).length := by rw [size_L, L_mkB]
    have HSZ := Lib.hid hsz
    clear hsz
    generalize mkB (fileN f) = S at *
    generalize (fileN f).length = N at *
    go_enter Try.func15, Try.ntmps15
    go_wp2_with fail
    refine (HP.out _ _ FL0.out (by simp; omega)).mono ?_
    rintro e w1 ⟨rfl, hb⟩
    have BE1 := Lib.hid (Below.link BE0.out hb)
    have FL1 := Lib.hid (FL0.out.below hb (Nat.le_trans hB BE0.out.size))
    have BF1 := Lib.hid (BF0.out.below hb BF0.out.lt)
    have ltBF1 := BF1.out.lt
    clear hb
    obtain ⟨c0, c1, c2, c3, c4, c5, c6⟩ := BF1.out.cells
    go_wp2_with fail
    refine (HA1.out _ _ FL1.out (Nat.le_trans hB BE1.out.size)).mono ?_
    rintro e w2 ⟨rfl, hb⟩
    have BE2 := Lib.hid (Below.link BE1.out hb)
    have FL2 := Lib.hid (FL1.out.below hb (Nat.le_trans hB BE1.out.size))
    have BF2 := Lib.hid (BF1.out.below hb BF1.out.lt)
    have ltBF2 := BF2.out.lt
    clear hb
    clear c0 c1 c2 c3 c4 c5 c6
    obtain ⟨c0, c1, c2, c3, c4, c5, c6⟩ := BF2.out.cells
    have hsz := HSZ.out
    by_cases hl : N ≤ 65536
    · have HE1 := Lib.hid (show E = 0 by rw [HE.out]; simp [hl])
      have hl' : (S.size : Int) ≤ 65536 := by omega
      clear hl hsz
      go_wp2
      go_ret
      exact ⟨ret_i HE1.out.symm, BE2.out⟩
    · have HE1 := Lib.hid (show E = 2 by rw [HE.out]; simp [hl])
      have hl' : (65536 : Int) < S.size := by omega
      clear hl hsz
      go_wp2
      go_ret
      exact ⟨ret_i HE1.out.symm, BE2.out⟩
  · have HE1 := Lib.hid (show E = P by rw [HE.out, if_neg hP])
    have hne := ne_beq hP
    clear hP
    go_enter Try.func15, Try.ntmps15
    go_wp2_with fail
    refine (HP.out _ _ FL0.out (by simp; omega)).mono ?_
    rintro e w1 ⟨rfl, hb⟩
    have BE1 := Lib.hid (Below.link BE0.out hb)
    have FL1 := Lib.hid (FL0.out.below hb (Nat.le_trans hB BE0.out.size))
    have BF1 := Lib.hid (BF0.out.below hb BF0.out.lt)
    have ltBF1 := BF1.out.lt
    clear hb
    obtain ⟨c0, c1, c2, c3, c4, c5, c6⟩ := BF1.out.cells
    go_wp2
    go_ret
    exact ⟨ret_i HE1.out.symm, BE1.out⟩
set_option maxRecDepth 1000000 in
set_option maxHeartbeats 12800000 in
theorem refEncode_file {B : Nat} (f : Fl) (v : Value) (w : World) (hf : FileAt B w v f) (hB : B ≤ w.heap.size) (ht : ∀ i, (textP f.pool i).size ≤ 1000000) (hx : ∀ c ∈ f.pool, c.text.size ≤ 1000000) :
    Calls Try.prog 13 #[v] w fun e w' => e = .returned (.tuple #[.string (encT f), .int .i64 (encF f)]) ∧ Below w.heap.size w w' := by
  have HP := Lib.hid (fun V W hW hWB => refRight_file (B := B) f V W hW hWB ht hx)
  have HA := Lib.hid (fun (h : encF f = 0) V W hW hWB => refBytes_any (B := B) f V W hW hWB hx (encF_fine h))
  have HT := Lib.hid (show encT f = if encF f = 0 then mkB (fileN f) else ⟨#[]⟩ by
    unfold encT encF
    by_cases h1 : partsE f = 0
    · by_cases h2 : (fileN f).length ≤ 65536
      · simp [h1, h2]
      · simp [h1, h2]
    · simp [h1])
  generalize encT f = T at *
  generalize encF f = E at *
  obtain ⟨Ap, cp, Ai, ci, Af, cf, Am, cm, rfl, hi⟩ := id hf
  have BE0 := Lib.hid ((Below.refl w.heap.size w).alloc (Nat.le_refl _) (.cells #[.slice Ap f.pool.length cp, .int .i64 f.fl, .int .i64 f.this, .int .i64 f.super, .slice Ai f.ifs.length ci, .slice Af f.fds.length cf, .slice Am f.mts.length cm] 26))
  have BF0 := Lib.hid (FBox.new Ap cp Ai ci Af cf Am cm f w)
  have FL0 := Lib.hid (hf.alloc hB (.cells #[.slice Ap f.pool.length cp, .int .i64 f.fl, .int .i64 f.this, .int .i64 f.super, .slice Ai f.ifs.length ci, .slice Af f.fds.length cf, .slice Am f.mts.length cm] 26))
  clear hi hf ht hx
  by_cases hP : E = 0
  · subst hP
    have HA1 := Lib.hid (HA.out rfl)
    have HT1 := Lib.hid (show T = mkB (fileN f) by rw [HT.out, if_pos rfl])
    go_enter Try.func13, Try.ntmps13
    go_wp2_with fail
    refine (HP.out _ _ FL0.out (by simp; omega)).mono ?_
    rintro e w1 ⟨rfl, hb⟩
    have BE1 := Lib.hid (Below.link BE0.out hb)
    have FL1 := Lib.hid (FL0.out.below hb (Nat.le_trans hB BE0.out.size))
    have BF1 := Lib.hid (BF0.out.below hb BF0.out.lt)
    have ltBF1 := BF1.out.lt
    clear hb
    obtain ⟨c0, c1, c2, c3, c4, c5, c6⟩ := BF1.out.cells
    go_wp2_with fail
    refine (HA1.out _ _ FL1.out (Nat.le_trans hB BE1.out.size)).mono ?_
    rintro e w2 ⟨rfl, hb⟩
    have BE2 := Lib.hid (Below.link BE1.out hb)
    have FL2 := Lib.hid (FL1.out.below hb (Nat.le_trans hB BE1.out.size))
    have BF2 := Lib.hid (BF1.out.below hb BF1.out.lt)
    have ltBF2 := BF2.out.lt
    clear hb
    clear c0 c1 c2 c3 c4 c5 c6
    obtain ⟨c0, c1, c2, c3, c4, c5, c6⟩ := BF2.out.cells
    go_wp2
    go_ret2
    rw [HT1.out]
    exact ⟨rfl, BE2.out⟩
  · have HT1 := Lib.hid (show T = ⟨#[]⟩ by rw [HT.out, if_neg hP])
    have hne := ne_beq hP
    clear hP
    go_enter Try.func13, Try.ntmps13
    go_wp2_with fail
    refine (HP.out _ _ FL0.out (by simp; omega)).mono ?_
    rintro e w1 ⟨rfl, hb⟩
    have BE1 := Lib.hid (Below.link BE0.out hb)
    have FL1 := Lib.hid (FL0.out.below hb (Nat.le_trans hB BE0.out.size))
    have BF1 := Lib.hid (BF0.out.below hb BF0.out.lt)
    have ltBF1 := BF1.out.lt
    clear hb
    obtain ⟨c0, c1, c2, c3, c4, c5, c6⟩ := BF1.out.cells
    go_wp2
    go_ret2
    rw [HT1.out]
    exact ⟨rfl, BE1.out⟩
set_option maxRecDepth 1000000 in
set_option maxHeartbeats 12800000 in
theorem refFind_any {B : Nat} (f : Fl) (v : Value) (w : World) (hf : FileAt B w v f) (hB : B ≤ w.heap.size) (a b : ByteArray) (htg : ∀ m ∈ f.mts, tagged f.pool m.nm 1 = true ∧ tagged f.pool m.ds 1 = true) :
    Calls Try.prog 21 #[v, .string a, .string b] w fun e w' => ∃ r, e = .returned (.int .i64 r) ∧ FindR (isM f.pool a b) f.mts r ∧ Below w.heap.size w w' := by
  obtain ⟨hm1, hm2, hm3, hm4⟩ := hf.max
  have HN := Lib.hid (fun V W hW hWB i => refName_file (B := B) f V W hW hWB i)
  have HTG := Lib.hid htg
  obtain ⟨Ap, cp, Ai, ci, Af, cf, Am, cm, rfl, hi⟩ := id hf
  have BE0 := Lib.hid ((Below.refl w.heap.size w).alloc (Nat.le_refl _) (.cells #[.slice Ap f.pool.length cp, .int .i64 f.fl, .int .i64 f.this, .int .i64 f.super, .slice Ai f.ifs.length ci, .slice Af f.fds.length cf, .slice Am f.mts.length cm] 26))
  have BF0 := Lib.hid (FBox.new Ap cp Ai ci Af cf Am cm f w)
  have FL0 := Lib.hid (hf.alloc hB (.cells #[.slice Ap f.pool.length cp, .int .i64 f.fl, .int .i64 f.this, .int .i64 f.super, .slice Ai f.ifs.length ci, .slice Af f.fds.length cf, .slice Am f.mts.length cm] 26))
  have HI := Lib.hid hi
  clear hi hf htg
  go_enter Try.func21, Try.ntmps21
  go_wp2
  go_loopg [7] f.mts.length (fun g iv wx => ∃ k : Nat, iv = .int .i64 k ∧ k + g = f.mts.length ∧ (f.mts.take k).any (isM f.pool a b) = false ∧ FBox w.heap.size Ap cp Ai ci Af cf Am cm f wx ∧ Below w.heap.size w wx)
  case atStart => exact ⟨0, rfl, by omega, by simp, BF0.out, BE0.out⟩
  case round =>
    obtain ⟨k, rfl, hkg, hany, hbf, hbe⟩ := hrel
    have HANY := Lib.hid hany
    have BF1 := Lib.hid hbf
    have BE1 := Lib.hid hbe
    have lt1 := hbf.lt
    obtain ⟨c0, c1, c2, c3, c4, c5, c6⟩ := hbf.cells
    clear hbf hbe hany
    by_cases hk : k < f.mts.length
    · have hgg : gk - 1 < gk := by omega
      obtain ⟨x, hx⟩ : ∃ x, f.mts[k]? = some x := ⟨_, List.getElem?_eq_getElem hk⟩
      have hII := HI.out.keep (w' := wr) (fun p hp => BE1.out.cell (p := p) (by omega))
      obtain ⟨p, o, A2, c2', rfl, hbb, hrow, x0, x1, x2, x3, x4, x5, x6⟩ := hII.mts.at_ hx
      have FL2 := Lib.hid (hII.at_.alloc (by omega) (.cells #[.int .i64 x.fl, .int .i64 x.nm, .int .i64 x.ds, .int .i64 x.ms, .int .i64 x.ml, .string x.code, .slice A2 x.hs.length c2'] 38))
      have HNX := Lib.hid (any_next hx HANY.out)
      have HX := Lib.hid hx
      have BE2 := Lib.hid (BE1.out.alloc (by omega) (.cells #[.int .i64 x.fl, .int .i64 x.nm, .int .i64 x.ds, .int .i64 x.ms, .int .i64 x.ml, .string x.code, .slice A2 x.hs.length c2'] 38))
      have BF2 := Lib.hid (BF1.out.alloc (.cells #[.int .i64 x.fl, .int .i64 x.nm, .int .i64 x.ds, .int .i64 x.ms, .int .i64 x.ml, .string x.code, .slice A2 x.hs.length c2'] 38))
      have MX2 := Lib.hid (MBox.new x A2 c2' wr)
      obtain ⟨tg1, tg2⟩ := HTG.out x (List.mem_of_getElem? hx)
      have T1 := Lib.hid tg1
      have T2 := Lib.hid tg2
      have hsz2 : (wr.alloc (.cells #[.int .i64 x.fl, .int .i64 x.nm, .int .i64 x.ds, .int .i64 x.ms, .int .i64 x.ml, .string x.code, .slice A2 x.hs.length c2'] 38)).heap.size = wr.heap.size + 1 := by simp
      have HSZ2 := Lib.hid hsz2
      clear hx hrow hII tg1 tg2 hsz2
      have HN1 := Lib.hid (fun V W hW hWB => (show Calls Try.prog 17 #[V, .int .i64 x.nm] W fun e w' => e = .returned (.tuple #[.string (textP f.pool x.nm), .bool true]) ∧ Below W.heap.size W w' from by have := HN.out V W hW hWB x.nm; rwa [T1.out] at this))
      have HN2 := Lib.hid (fun V W hW hWB => (show Calls Try.prog 17 #[V, .int .i64 x.ds] W fun e w' => e = .returned (.tuple #[.string (textP f.pool x.ds), .bool true]) ∧ Below W.heap.size W w' from by have := HN.out V W hW hWB x.ds; rwa [T2.out] at this))
      have HIS := Lib.hid (show isM f.pool a b x = (decide (textP f.pool x.nm = a) && decide (textP f.pool x.ds = b)) from rfl)
      generalize textP f.pool x.nm = t1 at *
      generalize textP f.pool x.ds = t2 at *
      cases hn : decide (t1 = a) <;> cases hd : decide (t2 = b)
      all_goals
        have hs1 : (t1.toList == a.toList) = _ := (str_beq _ _).trans hn
        have hs2 : (t2.toList == b.toList) = _ := (str_beq _ _).trans hd
        have HF := Lib.hid (show isM f.pool a b x = _ by rw [HIS.out, hn, hd])
        clear hn hd
        go_wp2_with fail
        refine (HN1.out _ _ FL2.out (by rw [HSZ2.out]; omega)).mono ?_
        rintro e w3 ⟨rfl, hb⟩
        have BE3 := Lib.hid (Below.link BE2.out hb)
        have BF3 := Lib.hid (BF2.out.below hb BF2.out.lt)
        have FL3 := Lib.hid (FL2.out.below hb (by have := BE2.out.size; omega))
        have MX3 := Lib.hid (MX2.out.below hb MX2.out.lt)
        have ltf3 := BF3.out.lt
        have ltx3 := MX3.out.lt
        clear hb c0 c1 c2 c3 c4 c5 c6 x0 x1 x2 x3 x4 x5 x6
        obtain ⟨c0, c1, c2, c3, c4, c5, c6⟩ := BF3.out.cells
        obtain ⟨x0, x1, x2, x3, x4, x5, x6⟩ := MX3.out.cells
        go_wp2_with fail
        refine (HN2.out _ _ FL3.out (by have := BE3.out.size; omega)).mono ?_
        rintro e w4 ⟨rfl, hb⟩
        have BE4 := Lib.hid (Below.link BE3.out hb)
        have BF4 := Lib.hid (BF3.out.below hb BF3.out.lt)
        have FL4 := Lib.hid (FL3.out.below hb (by have := BE3.out.size; omega))
        have MX4 := Lib.hid (MX3.out.below hb MX3.out.lt)
        have ltf4 := BF4.out.lt
        have ltx4 := MX4.out.lt
        clear hb c0 c1 c2 c3 c4 c5 c6 x0 x1 x2 x3 x4 x5 x6
        obtain ⟨c0, c1, c2, c3, c4, c5, c6⟩ := BF4.out.cells
        obtain ⟨x0, x1, x2, x3, x4, x5, x6⟩ := MX4.out.cells
        first
          | (have HF0 := Lib.hid (show isM f.pool a b x = false from HF.out)
             go_wp2
             go_roundg (gk - 1)
             case measure => exact hgg
             case rel => exact ⟨k + 1, by go_num, by omega, HNX.out.trans HF0.out, BF4.out, BE4.out⟩)
          | (have HF1 := Lib.hid (show isM f.pool a b x = true from HF.out)
             go_wp2
             go_ret
             exact ⟨_, rfl, .inl ⟨k, x, HX.out, HF1.out, HANY.out, rfl⟩, BE4.out⟩)
    · have HA := Lib.hid (show f.mts.any (isM f.pool a b) = false by have := HANY.out; rwa [List.take_of_length_le (by omega)] at this)
      go_wp2
      go_ret
      exact ⟨_, rfl, .inr ⟨HA.out, rfl⟩, BE1.out⟩
theorem mem_sum {α : Type} {g : α → Nat} : ∀ {l : List α} {x : α}, x ∈ l → g x ≤ (l.map g).sum
  | y :: r, x, h => by
    rcases List.mem_cons.1 h with rfl | h
    · simp
    · have := mem_sum (g := g) h
      simp
      omega
theorem small_pool {f : Fl} (h : smallB f = true) : ∀ c ∈ f.pool, c.text.size ≤ 1000000 := by
  unfold smallB at h
  simp only [Bool.and_eq_true, decide_eq_true_eq] at h
  intro c hc
  have := mem_sum (g := fun c : Cn => c.text.size) hc
  have h2 := h.2
  unfold sumT at h2
  omega
theorem textP_small {p : List Cn} (h : ∀ c ∈ p, c.text.size ≤ 1000000) (i : Int) : (textP p i).size ≤ 1000000 := by
  unfold textP
  split
  · rename_i c hc
    split
    · exact h c (List.mem_of_getElem? hc)
    · exact Nat.zero_le _
  · exact Nat.zero_le _
end Go.Proofs.Ytcgloepfnnfioaa
