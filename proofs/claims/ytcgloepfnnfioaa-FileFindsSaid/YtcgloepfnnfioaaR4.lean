/-
  WALK of the document's own error of a body.
  WALK of the document's own error of a field.
-/
import Derived.Test.YtcgloepfnnfioaaE8
import Derived.Test.YtcgloepfnnfioaaR1
import Derived.Deep.RegionHeld3
import Derived.Deep.LoopGhost
import Derived.Test.YtcgloepfnnfioaaE11
set_option linter.unusedVariables false
set_option linter.unusedSimpArgs false
namespace Go.Proofs.Ytcgloepfnnfioaa
open Go.RowKit

set_option maxRecDepth 1000000 in
set_option maxHeartbeats 6400000 in
theorem refCoded_any {B : Nat} (f : Fl) (v : Value) (w : World) (hf : FileAt B w v f) (hB : B ≤ w.heap.size) (m : Mb) (A : Option Addr) (c : Nat) (hr : HRow B w (.slice A m.hs.length c) m.hs) (h2 : m.fl ≠ 2) :
    Calls Try.prog 95 #[v, .agg #[.int .i64 m.fl, .int .i64 m.nm, .int .i64 m.ds, .int .i64 m.ms, .int .i64 m.ml, .string m.code, .slice A m.hs.length c]] w fun e w' => e = .returned (.int .i64 (bodyE f.pool m)) ∧ Below w.heap.size w w' := by
  have hrl := hr.len
  have HT := Lib.hid (fun r V W hW hWB i h => refTagged_at (B := B) r f V W hW hWB i 4 h)
  obtain ⟨fl, nm, ds, ms, ml, code, hs⟩ := m
  simp only at hr hrl h2 ⊢
  have HE := Lib.hid (show bodyE f.pool ⟨fl, nm, ds, ms, ml, code, hs⟩ = if fl = 2 then extraE ⟨fl, nm, ds, ms, ml, code, hs⟩
    else if ms < 0 ∨ 64 < ms ∨ ml < 0 ∨ 64 < ml then 26 else if code.size = 0 then 5 else if 4096 < code.size then 2 else if 32 < hs.length then 3
    else firstErr (hdlE f.pool code.size) hs from rfl)
  have HRW := Lib.hid hr
  clear hr
  generalize bodyE f.pool ⟨fl, nm, ds, ms, ml, code, hs⟩ = R at *
  obtain ⟨Ap, cp, Ai, ci, Af, cf, Am, cm, rfl, hi⟩ := id hf
  have FL := Lib.hid ((hf.alloc hB (.cells #[.slice Ap f.pool.length cp, .int .i64 f.fl, .int .i64 f.this, .int .i64 f.super, .slice Ai f.ifs.length ci, .slice Af f.fds.length cf, .slice Am f.mts.length cm] 26)).alloc (le_alloc hB _) (.cells #[.int .i64 fl, .int .i64 nm, .int .i64 ds, .int .i64 ms, .int .i64 ml, .string code, .slice A hs.length c] 38))
  have BE := Lib.hid (((Below.refl w.heap.size w).alloc (Nat.le_refl _) (.cells #[.slice Ap f.pool.length cp, .int .i64 f.fl, .int .i64 f.this, .int .i64 f.super, .slice Ai f.ifs.length ci, .slice Af f.fds.length cf, .slice Am f.mts.length cm] 26)).alloc (le_alloc (Nat.le_refl _) _) (.cells #[.int .i64 fl, .int .i64 nm, .int .i64 ds, .int .i64 ms, .int .i64 ml, .string code, .slice A hs.length c] 38))
  have BF := Lib.hid ((FBox.new Ap cp Ai ci Af cf Am cm f w).alloc (.cells #[.int .i64 fl, .int .i64 nm, .int .i64 ds, .int .i64 ms, .int .i64 ml, .string code, .slice A hs.length c] 38))
  have BM := Lib.hid (heap_new2 w (.cells #[.slice Ap f.pool.length cp, .int .i64 f.fl, .int .i64 f.this, .int .i64 f.super, .slice Ai f.ifs.length ci, .slice Af f.fds.length cf, .slice Am f.mts.length cm] 26) (.cells #[.int .i64 fl, .int .i64 nm, .int .i64 ds, .int .i64 ms, .int .i64 ml, .string code, .slice A hs.length c] 38))
  clear hi hf
  by_cases hms : ms < 0 ∨ 64 < ms ∨ ml < 0 ∨ 64 < ml
  · have HR := Lib.hid (show R = 26 by rw [HE.out, if_neg h2, if_pos hms])
    clear h2 HE
    by_cases q1 : ms < 0
    · clear hms
      go_enter Try.func95, Try.ntmps95
      go_wp2
      go_ret
      exact ⟨ret_i HR.out.symm, BE.out⟩
    have q1' : 0 ≤ ms := by omega
    by_cases q2 : 64 < ms
    · clear hms q1
      go_enter Try.func95, Try.ntmps95
      go_wp2
      go_ret
      exact ⟨ret_i HR.out.symm, BE.out⟩
    have q2' : ms ≤ 64 := by omega
    by_cases q3 : ml < 0
    · clear hms q1 q2
      go_enter Try.func95, Try.ntmps95
      go_wp2
      go_ret
      exact ⟨ret_i HR.out.symm, BE.out⟩
    have q3' : 0 ≤ ml := by omega
    have q4 : 64 < ml := by omega
    clear hms q1 q2 q3
    go_enter Try.func95, Try.ntmps95
    go_wp2
    go_ret
    exact ⟨ret_i HR.out.symm, BE.out⟩
  have q1 : 0 ≤ ms := by omega
  have q2 : ms ≤ 64 := by omega
  have q3 : 0 ≤ ml := by omega
  have q4 : ml ≤ 64 := by omega
  rcases str_nil (s := code) with ⟨hx, e1, e2⟩ | ⟨hx, e1, e2⟩
  · have HR := Lib.hid (show R = 5 by rw [HE.out, if_neg h2, if_neg hms, if_pos hx])
    clear h2 HE hms
    go_enter Try.func95, Try.ntmps95
    go_wp2
    go_ret
    exact ⟨ret_i HR.out.symm, BE.out⟩
  by_cases h4 : 4096 < code.size
  · have HR := Lib.hid (show R = 2 by rw [HE.out, if_neg h2, if_neg hms, if_neg (by omega), if_pos h4])
    have h4' : (4096 : Int) < code.size := by omega
    clear h2 HE hms
    go_enter Try.func95, Try.ntmps95
    go_wp2
    go_ret
    exact ⟨ret_i HR.out.symm, BE.out⟩
  have h4' : (code.size : Int) ≤ 4096 := by omega
  by_cases h5 : 32 < hs.length
  · have HR := Lib.hid (show R = 3 by rw [HE.out, if_neg h2, if_neg hms, if_neg (by omega), if_neg h4, if_pos h5])
    have h5' : (32 : Int) < hs.length := by omega
    clear h2 HE hms h4
    go_enter Try.func95, Try.ntmps95
    go_wp2
    go_ret
    exact ⟨ret_i HR.out.symm, BE.out⟩
  have h5' : (hs.length : Int) ≤ 32 := by omega
  have HR := Lib.hid (show R = firstErr (hdlE f.pool code.size) hs by rw [HE.out, if_neg h2, if_neg hms, if_neg (by omega), if_neg h4, if_neg h5])
  clear h2 HE hms h4 h5
  go_enter Try.func95, Try.ntmps95
  go_wp2
  go_loopg [5] hs.length (fun g iv wx => ∃ k : Nat, iv = .int .i64 k ∧ k + g = hs.length ∧ firstErr (hdlE f.pool code.size) (hs.take k) = 0 ∧ FBox w.heap.size Ap cp Ai ci Af cf Am cm f wx ∧ wx.heap[w.heap.size + 1]? = some (.cells #[.int .i64 fl, .int .i64 nm, .int .i64 ds, .int .i64 ms, .int .i64 ml, .string code, .slice A hs.length c] 38 (0, 0)) ∧ FileAt B wx (.agg #[.slice Ap f.pool.length cp, .int .i64 f.fl, .int .i64 f.this, .int .i64 f.super, .slice Ai f.ifs.length ci, .slice Af f.fds.length cf, .slice Am f.mts.length cm]) f ∧ Below w.heap.size w wx)
  case atStart => exact ⟨0, rfl, by omega, rfl, BF.out, BM.out, FL.out, BE.out⟩
  case round =>
    obtain ⟨k, rfl, hkg, hfe, hbf, hbm, hfl, hbe⟩ := hrel
    have HFE := Lib.hid hfe
    have BF1 := Lib.hid hbf
    have BM1 := Lib.hid hbm
    have FL1 := Lib.hid hfl
    have BE1 := Lib.hid hbe
    have ltf := hbf.lt
    have ltm := lt_of_block hbm
    obtain ⟨c0, c1, c2, c3, c4, c5, c6⟩ := hbf.cells
    have m0 : wr.cell? ⟨w.heap.size + 1, 0, none⟩ = some (.int .i64 fl) := cells_of hbm 0
    have m1 : wr.cell? ⟨w.heap.size + 1, 1, none⟩ = some (.int .i64 nm) := cells_of hbm 1
    have m2 : wr.cell? ⟨w.heap.size + 1, 2, none⟩ = some (.int .i64 ds) := cells_of hbm 2
    have m3 : wr.cell? ⟨w.heap.size + 1, 3, none⟩ = some (.int .i64 ms) := cells_of hbm 3
    have m4 : wr.cell? ⟨w.heap.size + 1, 4, none⟩ = some (.int .i64 ml) := cells_of hbm 4
    have m5 : wr.cell? ⟨w.heap.size + 1, 5, none⟩ = some (.string code) := cells_of hbm 5
    have m6 : wr.cell? ⟨w.heap.size + 1, 6, none⟩ = some (.slice A hs.length c) := cells_of hbm 6
    clear hfe hbf hbm hfl hbe
    by_cases hk : k < hs.length
    · have hgg : gk - 1 < gk := by omega
      obtain ⟨x, hx⟩ : ∃ x, hs[k]? = some x := ⟨_, List.getElem?_eq_getElem hk⟩
      obtain ⟨b, o, rfl, hbb, x0, x1, x2, x3⟩ := (show HRow B wr _ hs from Row.keep HRW.out fun p hp => BE1.out.cell (p := p) (by omega)).at_ hx
      have HNX := Lib.hid (firstErr_next (hdlE f.pool code.size) hs k x hx HFE.out)
      have HST := Lib.hid (fun h => firstErr_stop (hdlE f.pool code.size) hs (k + 1) h)
      have HXE := Lib.hid (show hdlE f.pool code.size x = if x.fr < 0 ∨ x.to ≤ x.fr ∨ (code.size : Int) < x.to ∨ x.at_ < 0 ∨ (code.size : Int) ≤ x.at_ then 1 else if noneB f.pool x.cl = true then 0 else 7 from rfl)
      have FL2 := Lib.hid (FL1.out.alloc (by omega) (.cells #[.int .i64 x.fr, .int .i64 x.to, .int .i64 x.at_, .int .i64 x.cl] 76))
      clear hx
      by_cases hbad : x.fr < 0 ∨ x.to ≤ x.fr ∨ (code.size : Int) < x.to ∨ x.at_ < 0 ∨ (code.size : Int) ≤ x.at_
      · have HR1 := Lib.hid (show R = 1 by rw [HR.out, HST.out (by rw [HNX.out, HXE.out, if_pos hbad]; decide), HNX.out, HXE.out, if_pos hbad])
        have BE2 := Lib.hid (BE1.out.alloc (by omega) (.cells #[.int .i64 x.fr, .int .i64 x.to, .int .i64 x.at_, .int .i64 x.cl] 76))
        by_cases p1 : x.fr < 0
        · clear hbad
          go_wp2
          go_ret
          exact ⟨ret_i HR1.out.symm, BE2.out⟩
        have p1' : 0 ≤ x.fr := by omega
        by_cases p2 : x.to ≤ x.fr
        · clear hbad p1
          go_wp2
          go_ret
          exact ⟨ret_i HR1.out.symm, BE2.out⟩
        have p2' : x.fr < x.to := by omega
        by_cases p3 : (code.size : Int) < x.to
        · clear hbad p1 p2
          go_wp2
          go_ret
          exact ⟨ret_i HR1.out.symm, BE2.out⟩
        have p3' : x.to ≤ (code.size : Int) := by omega
        by_cases p4 : x.at_ < 0
        · clear hbad p1 p2 p3
          go_wp2
          go_ret
          exact ⟨ret_i HR1.out.symm, BE2.out⟩
        have p4' : 0 ≤ x.at_ := by omega
        have p5 : (code.size : Int) ≤ x.at_ := by omega
        clear hbad p1 p2 p3 p4
        go_wp2
        go_ret
        exact ⟨ret_i HR1.out.symm, BE2.out⟩
      · have p1' : 0 ≤ x.fr := by omega
        have p2' : x.fr < x.to := by omega
        have p3' : x.to ≤ (code.size : Int) := by omega
        have p4' : 0 ≤ x.at_ := by omega
        have p5' : x.at_ < (code.size : Int) := by omega
        have HXE2 := Lib.hid (show hdlE f.pool code.size x = if noneB f.pool x.cl = true then 0 else 7 by rw [HXE.out, if_neg hbad])
        clear hbad HXE
        obtain ⟨tx, htx⟩ : ∃ t, tagged f.pool x.cl 4 = t := ⟨_, rfl⟩
        have HTX := Lib.hid htx
        obtain ⟨zx, hzx⟩ : ∃ z, (x.cl == 0) = z := ⟨_, rfl⟩
        have hzx' : (x.cl != 0) = !zx := by rw [← hzx]; rfl
        have HNB := Lib.hid (show noneB f.pool x.cl = (zx || tx) by unfold noneB; rw [htx, ← hzx]; rfl)
        clear htx
        cases tx <;> cases zx
        all_goals
          simp only [Bool.not_true, Bool.not_false] at hzx'
          go_wp2_with fail
          refine (HT.out _ _ _ FL2.out (by simp; omega) _ HTX.out).mono ?_
          rintro e w1 ⟨rfl, hb⟩
          have BE2 := Lib.hid (Below.link (BE1.out.alloc (by omega) (.cells #[.int .i64 x.fr, .int .i64 x.to, .int .i64 x.at_, .int .i64 x.cl] 76)) hb)
          have BF2 := Lib.hid ((BF1.out.alloc (.cells #[.int .i64 x.fr, .int .i64 x.to, .int .i64 x.at_, .int .i64 x.cl] 76)).below hb (by simp; omega))
          have BM2 := Lib.hid (Below.keep hb (by simp; omega) (heap_alloc_lt (o := (.cells #[.int .i64 x.fr, .int .i64 x.to, .int .i64 x.at_, .int .i64 x.cl] 76)) BM1.out))
          have FL3 := Lib.hid (FL2.out.below hb (by simp; omega))
          have BH2 := Lib.hid (Below.keep hb (by simp) (heap_new wr (.cells #[.int .i64 x.fr, .int .i64 x.to, .int .i64 x.at_, .int .i64 x.cl] 76)))
          have lth := lt_of_block BH2.out
          have q0 : w1.cell? ⟨wr.heap.size, 0, none⟩ = some (.int .i64 x.fr) := cells_of BH2.out 0
          have q1x : w1.cell? ⟨wr.heap.size, 1, none⟩ = some (.int .i64 x.to) := cells_of BH2.out 1
          have q2x : w1.cell? ⟨wr.heap.size, 2, none⟩ = some (.int .i64 x.at_) := cells_of BH2.out 2
          have q3x : w1.cell? ⟨wr.heap.size, 3, none⟩ = some (.int .i64 x.cl) := cells_of BH2.out 3
          clear hb c0 c1 c2 c3 c4 c5 c6 m0 m1 m2 m3 m4 m5 m6 x0 x1 x2 x3
          first
            | (have HR1 := Lib.hid (show R = 7 by rw [HR.out, HST.out (by rw [HNX.out, HXE2.out, HNB.out]; decide), HNX.out, HXE2.out, HNB.out]; rfl)
               go_wp2
               go_ret
               exact ⟨ret_i HR1.out.symm, BE2.out⟩)
            | (have HX0 := Lib.hid (show hdlE f.pool code.size x = 0 by rw [HXE2.out, HNB.out]; rfl)
               go_wp2
               go_roundg (gk - 1)
               case measure => exact hgg
               case rel => exact ⟨k + 1, by go_num, by omega, HNX.out.trans HX0.out, BF2.out, BM2.out, FL3.out, BE2.out⟩)
    · have HA := Lib.hid (show R = 0 by rw [HR.out]; have := HFE.out; rwa [List.take_of_length_le (by omega)] at this)
      go_wp2
      go_ret
      exact ⟨ret_i HA.out.symm, BE1.out⟩
theorem hdE_named (p : List Cn) (ffl last : Int) (m : Mb) (b : Bool) : hdE p ffl last (if b then sigE else typeE) m = if m.fl < 0 ∨ last < m.fl ∨ (m.fl = 0 ∧ ffl = 3) then 10 else namedE p m b := by
  unfold hdE namedE pairE nameE descE
  by_cases h : m.fl < 0 ∨ last < m.fl ∨ (m.fl = 0 ∧ ffl = 3)
  · rw [if_pos h, if_pos h]
  · rw [if_neg h, if_neg h]
    cases tagged p m.nm 1 <;> cases tagged p m.ds 1 <;> cases nameL (L (textP p m.nm)) <;> cases b <;> simp
theorem namedE_tags {p : List Cn} {m : Mb} {b : Bool} (h : namedE p m b = 0) : tagged p m.nm 1 = true ∧ tagged p m.ds 1 = true := by
  unfold namedE at h
  cases h1 : tagged p m.nm 1 <;> cases h2 : tagged p m.ds 1 <;> rw [h1, h2] at h <;> simp at h ⊢
set_option maxRecDepth 1000000 in
set_option maxHeartbeats 12800000 in
theorem refField_mem {B : Nat} (f : Fl) (v : Value) (w : World) (hf : FileAt B w v f) (hB : B ≤ w.heap.size) (ht : ∀ i, (textP f.pool i).size ≤ 1000000) (i : Nat) (m : Mb) (hm : f.fds[i]? = some m) (hp : ∀ k d, k < i → f.fds[k]? = some d → tagged f.pool d.nm 1 = true) :
    Calls Try.prog 61 #[v, .int .i64 i] w fun e w' => e = .returned (.int .i64 (memE [hdE f.pool f.fl 1 typeE, extraE] (sameN f.pool) f.fds i)) ∧ Below w.heap.size w w' := by
  have hil := (List.getElem?_eq_some_iff.1 hm).1
  obtain ⟨hm1, hm2, hm3, hm4⟩ := hf.max
  have HE := Lib.hid (show memE [hdE f.pool f.fl 1 typeE, extraE] (sameN f.pool) f.fds i = if (m.fl < 0 ∨ 1 < m.fl ∨ (m.fl = 0 ∧ f.fl = 3)) then 10 else if namedE f.pool m false = 0 then (if bareB m = true then (if (f.fds.take i).any (fun d => sameN f.pool d m) = true then 15 else 0) else 1) else namedE f.pool m false by
    have h1 := hdE_named f.pool f.fl 1 m false
    rw [if_neg (by decide)] at h1
    unfold memE
    rw [hm]
    simp only [firstErr, h1, extraE]
    by_cases hc : (m.fl < 0 ∨ 1 < m.fl ∨ (m.fl = 0 ∧ f.fl = 3))
    · simp only [if_pos hc]
      simp
    · simp only [if_neg hc]
      by_cases hn : namedE f.pool m false = 0
      · simp only [hn]
        by_cases hb : bareB m = true <;> simp [hb]
      · simp [hn])
  generalize memE [hdE f.pool f.fl 1 typeE, extraE] (sameN f.pool) f.fds i = R at *
  have HX := Lib.hid (fun V W hW hWB i h => reftext_any (B := B) f V W hW hWB i h)
  have HTG := Lib.hid (fun h => (namedE_tags (p := f.pool) (m := m) (b := false) h).1)
  obtain ⟨Ap, cp, Ai, ci, Af, cf, Am, cm, rfl, hi⟩ := id hf
  have hI1 := hi.keep (w' := w.alloc (.cells #[.slice Ap f.pool.length cp, .int .i64 f.fl, .int .i64 f.this, .int .i64 f.super, .slice Ai f.ifs.length ci, .slice Af f.fds.length cf, .slice Am f.mts.length cm] 26)) (fun p hp => World.cell?_alloc_lt w _ p (by omega))
  have HI := Lib.hid hi
  have HM := Lib.hid hm
  have HP := Lib.hid hp
  obtain ⟨p0, o0, A2, c2', rfl, hbb, hrow, x0, x1, x2, x3, x4, x5, x6⟩ := hI1.fds.at_ hm
  have HNM := Lib.hid (fun V W hW hWB => named_any (B := B) f V W hW hWB ht m A2 c2' false)
  have HBR := Lib.hid (fun W => bare_any W m A2 c2')
  have FL0 := Lib.hid ((hf.alloc hB (.cells #[.slice Ap f.pool.length cp, .int .i64 f.fl, .int .i64 f.this, .int .i64 f.super, .slice Ai f.ifs.length ci, .slice (some ⟨p0, o0, none⟩) f.fds.length cf, .slice Am f.mts.length cm] 26)).alloc (le_alloc hB _) (.cells #[.int .i64 m.fl, .int .i64 m.nm, .int .i64 m.ds, .int .i64 m.ms, .int .i64 m.ml, .string m.code, .slice A2 m.hs.length c2'] 38))
  have BE0 := Lib.hid (((Below.refl w.heap.size w).alloc (Nat.le_refl _) (.cells #[.slice Ap f.pool.length cp, .int .i64 f.fl, .int .i64 f.this, .int .i64 f.super, .slice Ai f.ifs.length ci, .slice (some ⟨p0, o0, none⟩) f.fds.length cf, .slice Am f.mts.length cm] 26)).alloc (le_alloc (Nat.le_refl _) _) (.cells #[.int .i64 m.fl, .int .i64 m.nm, .int .i64 m.ds, .int .i64 m.ms, .int .i64 m.ml, .string m.code, .slice A2 m.hs.length c2'] 38))
  have BF0 := Lib.hid ((FBox.new Ap cp Ai ci (some ⟨p0, o0, none⟩) cf Am cm f w).alloc (.cells #[.int .i64 m.fl, .int .i64 m.nm, .int .i64 m.ds, .int .i64 m.ms, .int .i64 m.ml, .string m.code, .slice A2 m.hs.length c2'] 38))
  have BM0 := Lib.hid (show MBox (w.heap.size + 1) m A2 c2' _ from heap_new2 w (.cells #[.slice Ap f.pool.length cp, .int .i64 f.fl, .int .i64 f.this, .int .i64 f.super, .slice Ai f.ifs.length ci, .slice (some ⟨p0, o0, none⟩) f.fds.length cf, .slice Am f.mts.length cm] 26) (.cells #[.int .i64 m.fl, .int .i64 m.nm, .int .i64 m.ds, .int .i64 m.ms, .int .i64 m.ml, .string m.code, .slice A2 m.hs.length c2'] 38))
  have hwk : IntKind.i64.wrap (i : Int) = i := IntWalk.i64_in _ (by omega)
  have hil' : (i : Int) < f.fds.length := by omega
  clear hi hf hm hp hI1 hrow ht
  by_cases hc : (m.fl < 0 ∨ 1 < m.fl ∨ (m.fl = 0 ∧ f.fl = 3))
  · have HR := Lib.hid (show R = 10 by rw [HE.out, if_pos hc])
    clear HE
    rcases (show (m.fl = 0 ∧ f.fl = 3) ∨ (m.fl ≠ 0 ∧ m.fl ≠ 1) by omega) with ⟨h, h'⟩ | ⟨h, h'⟩
    · have g0 : (m.fl == 0) = true := by simpa using h
      have g0' : (m.fl != 0) = false := by simpa using h
      have g3 : (f.fl == 3) = true := by simpa using h'
      clear hc h h'
      go_enter Try.func61, Try.ntmps61
      go_wp2
      go_ret
      exact ⟨ret_i HR.out.symm, BE0.out⟩
    · have g0 : (m.fl == 0) = false := by simpa using h
      have g0' : (m.fl != 0) = true := by simpa using h
      have g1 : (m.fl == 1) = false := by simpa using h'
      have g1' : (m.fl != 1) = true := by simpa using h'
      clear hc h h'
      go_enter Try.func61, Try.ntmps61
      go_wp2
      go_ret
      exact ⟨ret_i HR.out.symm, BE0.out⟩
  · have HR := Lib.hid (show R = if namedE f.pool m false = 0 then (if bareB m = true then (if (f.fds.take i).any (fun d => sameN f.pool d m) = true then 15 else 0) else 1) else namedE f.pool m false by rw [HE.out, if_neg hc])
    clear HE
    generalize namedE f.pool m false = E at *
    have key : ((m.fl == 0) = true ∧ (m.fl != 0) = false ∧ (f.fl == 3) = false ∧ (f.fl != 3) = true) ∨ ((m.fl == 0) = false ∧ (m.fl != 0) = true ∧ (m.fl == 1) = true ∧ (m.fl != 1) = false) := by
      rcases (show (m.fl = 0 ∧ ¬ f.fl = 3) ∨ m.fl = 1 by omega) with ⟨h, h'⟩ | h
      · exact .inl ⟨by simpa using h, by simpa using h, by simpa using h', by simpa using h'⟩
      · exact .inr ⟨by simp [h], by simp [h], by simp [h], by simp [h]⟩
    clear hc
    rcases (Classical.em (E = 0)).symm with hE | hE
    · have HR1 := Lib.hid (show R = E by rw [HR.out, if_neg hE])
      have ge : (E == 0) = false := by simpa using hE
      have ge' : (E != 0) = true := by simpa using hE
      clear HR hE
      rcases key with ⟨g0, g0', g3, g3'⟩ | ⟨g0, g0', g1, g1'⟩
      all_goals
        go_enter Try.func61, Try.ntmps61
        go_wp2_with fail
        refine (HNM.out _ _ FL0.out (Nat.le_trans hB BE0.out.size)).mono ?_
        rintro e w1 ⟨rfl, hb⟩
        have BE1 := Lib.hid (Below.link BE0.out hb)
        have FL1 := Lib.hid (FL0.out.below hb (Nat.le_trans hB BE0.out.size))
        have BF1 := Lib.hid (BF0.out.below hb BF0.out.lt)
        have ltBF1 := BF1.out.lt
        have BM1 := Lib.hid (BM0.out.below hb BM0.out.lt)
        have ltBM1 := BM1.out.lt
        clear hb
        obtain ⟨c0, c1, c2, c3, c4, c5, c6⟩ := BF1.out.cells
        obtain ⟨m0, m1, m2, m3, m4, m5, m6⟩ := BM1.out.cells
        go_wp2
        go_ret
        exact ⟨ret_i HR1.out.symm, BE1.out⟩
    · subst hE
      have HTM := Lib.hid (HTG.out rfl)
      cases hbr : bareB m with
      | false =>
        have HR1 := Lib.hid (show R = 1 by rw [HR.out, hbr]; rfl)
        rw [hbr] at HBR
        clear HR hbr
        rcases key with ⟨g0, g0', g3, g3'⟩ | ⟨g0, g0', g1, g1'⟩
        all_goals
          go_enter Try.func61, Try.ntmps61
          go_wp2_with fail
          refine (HNM.out _ _ FL0.out (Nat.le_trans hB BE0.out.size)).mono ?_
          rintro e w1 ⟨rfl, hb⟩
          have BE1 := Lib.hid (Below.link BE0.out hb)
          have FL1 := Lib.hid (FL0.out.below hb (Nat.le_trans hB BE0.out.size))
          have BF1 := Lib.hid (BF0.out.below hb BF0.out.lt)
          have ltBF1 := BF1.out.lt
          have BM1 := Lib.hid (BM0.out.below hb BM0.out.lt)
          have ltBM1 := BM1.out.lt
          clear hb
          obtain ⟨c0, c1, c2, c3, c4, c5, c6⟩ := BF1.out.cells
          obtain ⟨m0, m1, m2, m3, m4, m5, m6⟩ := BM1.out.cells
          go_wp2_with fail
          refine (HBR.out _).mono ?_
          rintro e w2 ⟨rfl, hb⟩
          have BE2 := Lib.hid (Below.link BE1.out hb)
          have FL2 := Lib.hid (FL1.out.below hb (Nat.le_trans hB BE1.out.size))
          have BF2 := Lib.hid (BF1.out.below hb BF1.out.lt)
          have ltBF2 := BF2.out.lt
          have BM2 := Lib.hid (BM1.out.below hb BM1.out.lt)
          have ltBM2 := BM2.out.lt
          clear hb
          clear c0 c1 c2 c3 c4 c5 c6 m0 m1 m2 m3 m4 m5 m6
          obtain ⟨c0, c1, c2, c3, c4, c5, c6⟩ := BF2.out.cells
          obtain ⟨m0, m1, m2, m3, m4, m5, m6⟩ := BM2.out.cells
          go_wp2
          go_ret
          exact ⟨ret_i HR1.out.symm, BE2.out⟩
      | true =>
        have HR1 := Lib.hid (show R = if (f.fds.take i).any (fun d => sameN f.pool d m) = true then 15 else 0 by rw [HR.out, hbr]; rfl)
        rw [hbr] at HBR
        clear HR hbr
        rcases key with ⟨g0, g0', g3, g3'⟩ | ⟨g0, g0', g1, g1'⟩
        all_goals
          go_enter Try.func61, Try.ntmps61
          go_wp2_with fail
          refine (HNM.out _ _ FL0.out (Nat.le_trans hB BE0.out.size)).mono ?_
          rintro e w1 ⟨rfl, hb⟩
          have BE1 := Lib.hid (Below.link BE0.out hb)
          have FL1 := Lib.hid (FL0.out.below hb (Nat.le_trans hB BE0.out.size))
          have BF1 := Lib.hid (BF0.out.below hb BF0.out.lt)
          have ltBF1 := BF1.out.lt
          have BM1 := Lib.hid (BM0.out.below hb BM0.out.lt)
          have ltBM1 := BM1.out.lt
          clear hb
          obtain ⟨c0, c1, c2, c3, c4, c5, c6⟩ := BF1.out.cells
          obtain ⟨m0, m1, m2, m3, m4, m5, m6⟩ := BM1.out.cells
          go_wp2_with fail
          refine (HBR.out _).mono ?_
          rintro e w2 ⟨rfl, hb⟩
          have BE2 := Lib.hid (Below.link BE1.out hb)
          have FL2 := Lib.hid (FL1.out.below hb (Nat.le_trans hB BE1.out.size))
          have BF2 := Lib.hid (BF1.out.below hb BF1.out.lt)
          have ltBF2 := BF2.out.lt
          have BM2 := Lib.hid (BM1.out.below hb BM1.out.lt)
          have ltBM2 := BM2.out.lt
          clear hb
          clear c0 c1 c2 c3 c4 c5 c6 m0 m1 m2 m3 m4 m5 m6
          obtain ⟨c0, c1, c2, c3, c4, c5, c6⟩ := BF2.out.cells
          obtain ⟨m0, m1, m2, m3, m4, m5, m6⟩ := BM2.out.cells
          go_wp2
          go_loopg [8] i (fun g iv wx => ∃ k : Nat, iv = .int .i64 k ∧ k + g = i ∧ (f.fds.take k).any (fun d => sameN f.pool d m) = false ∧ FileAt B wx (.agg #[.slice Ap f.pool.length cp, .int .i64 f.fl, .int .i64 f.this, .int .i64 f.super, .slice Ai f.ifs.length ci, .slice (some ⟨p0, o0, none⟩) f.fds.length cf, .slice Am f.mts.length cm]) f ∧ FBox w.heap.size Ap cp Ai ci (some ⟨p0, o0, none⟩) cf Am cm f wx ∧ MBox (w.heap.size + 1) m A2 c2' wx ∧ Below w.heap.size w wx)
          case atStart => exact ⟨0, rfl, by omega, by simp, FL2.out, BF2.out, BM2.out, BE2.out⟩
          case round =>
            obtain ⟨k, rfl, hkg, hany, hfl, hbf, hbm, hbe⟩ := hrel
            have HANY := Lib.hid hany
            have FL3 := Lib.hid hfl
            have BF3 := Lib.hid hbf
            have BM3 := Lib.hid hbm
            have BE3 := Lib.hid hbe
            have ltBF3 := hbf.lt
            have ltBM3 := hbm.lt
            clear hany hfl hbf hbm hbe c0 c1 c2 c3 c4 c5 c6 m0 m1 m2 m3 m4 m5 m6
            obtain ⟨c0, c1, c2, c3, c4, c5, c6⟩ := BF3.out.cells
            obtain ⟨m0, m1, m2, m3, m4, m5, m6⟩ := BM3.out.cells
            clear x0 x1 x2 x3 x4 x5 x6
            by_cases hlt : k < i
            · have hgg : gk - 1 < gk := by omega
              obtain ⟨d, hd⟩ : ∃ d, f.fds[k]? = some d := ⟨_, List.getElem?_eq_getElem (by omega)⟩
              have T1 := Lib.hid (HP.out k d hlt hd)
              have HNX := Lib.hid (any_next (g := fun d => sameN f.pool d m) hd HANY.out)
              have HAL := Lib.hid (fun h => any_later (g := fun d => sameN f.pool d m) hd hlt h)
              have hI3 := HI.out.keep (w' := wr) (fun p hp => BE3.out.cell (p := p) (by omega))
              obtain ⟨p1, o1, A3, c3', e1, hb1, hrow1, -, y1, -, -, -, -, -⟩ := hI3.fds.at_ hd
              injection e1 with e1
              injection e1 with e2 e3 e4
              subst e2 e3
              have hwk2 : IntKind.i64.wrap (k : Int) = k := IntWalk.i64_in _ (by omega)
              have hlk : (k : Int) < f.fds.length := by omega
              have hpw : p0 < w.heap.size + 2 := by omega
              clear hd hI3 hrow1 e4
              go_wp2
              have FLd := FL3.out.drew
              have BEd := BE3.out
              have BFd := BF3.out
              have BMd := BM3.out
              have hsz : w.heap.size + 2 ≤ wr.heap.size := by omega
              go_region_held3 (fun w' => w'.cell? ⟨w.heap.size, 0, none⟩ = some (.slice Ap f.pool.length cp) ∧ w'.cell? ⟨w.heap.size, 1, none⟩ = some (.int .i64 f.fl) ∧ w'.cell? ⟨w.heap.size, 2, none⟩ = some (.int .i64 f.this) ∧ w'.cell? ⟨w.heap.size, 3, none⟩ = some (.int .i64 f.super) ∧ w'.cell? ⟨w.heap.size, 4, none⟩ = some (.slice Ai f.ifs.length ci) ∧ w'.cell? ⟨w.heap.size, 5, none⟩ = some (.slice (some ⟨p0, o0, none⟩) f.fds.length cf) ∧ w'.cell? ⟨w.heap.size, 6, none⟩ = some (.slice Am f.mts.length cm) ∧ w'.cell? ⟨p0, o0 + k * 7 + 1, none⟩ = some (.int .i64 d.nm) ∧ w'.cell? ⟨w.heap.size + 1, 1, none⟩ = some (.int .i64 m.nm) ∧ FileAt B w' (.agg #[.slice Ap f.pool.length cp, .int .i64 f.fl, .int .i64 f.this, .int .i64 f.super, .slice Ai f.ifs.length ci, .slice (some ⟨p0, o0, none⟩) f.fds.length cf, .slice Am f.mts.length cm]) f ∧ w.heap.size + 2 ≤ w'.heap.size ∧ Below w.heap.size w w' ∧ FBox w.heap.size Ap cp Ai ci (some ⟨p0, o0, none⟩) cf Am cm f w' ∧ MBox (w.heap.size + 1) m A2 c2' w')
                (first
                  | exact ⟨c0, c1, c2, c3, c4, c5, c6, y1, m1, FLd, hsz, BEd.drew, BFd.drew, BMd.drew⟩
                  | (go_split_ands
                     refine ⟨?_, ?_, ?_, ?_, ?_, ?_, ?_, ?_, ?_, ?_, ?_, ?_, ?_, ?_⟩
                     all_goals first
                       | assumption
                       | exact keepc hb (B := w.heap.size + 2) (by omega) (by omega) (by assumption)
                       | exact FileAt.below (by assumption) hb (by omega)
                       | exact Nat.le_trans (by assumption) hb.size
                       | exact Below.link (by assumption) hb
                       | exact FBox.below (by assumption) hb (by omega)
                       | exact MBox.below (by assumption) hb (by omega)))
                ((go_at_call 32; refine (HX.out _ _ (by first | assumption | (go_split_ands; assumption)) (by go_split_ands; omega) _ (by first | exact T1.out | exact HTM.out)).mono ?_; rintro e wi ⟨rfl, hb⟩))
              clear FLd BEd BFd BMd hsz c0 c1 c2 c3 c4 c5 c6 m0 m1 m2 m3 m4 m5 m6 y1
              go_split_ands
              have BEI := Lib.hid (show Below w.heap.size w wi by assumption)
              have BFI := Lib.hid (show FBox w.heap.size Ap cp Ai ci (some ⟨p0, o0, none⟩) cf Am cm f wi by assumption)
              have BMI := Lib.hid (show MBox (w.heap.size + 1) m A2 c2' wi by assumption)
              have FLI := Lib.hid (show FileAt B wi (.agg #[.slice Ap f.pool.length cp, .int .i64 f.fl, .int .i64 f.this, .int .i64 f.super, .slice Ai f.ifs.length ci, .slice (some ⟨p0, o0, none⟩) f.fds.length cf, .slice Am f.mts.length cm]) f by assumption)
              cases hn : decide (textP f.pool d.nm = textP f.pool m.nm) with
              | false =>
                have hs1 : ((textP f.pool d.nm).toList == (textP f.pool m.nm).toList) = false := (str_beq _ _).trans hn
                have HF := Lib.hid (show sameN f.pool d m = false from hn)
                clear hn
                go_wp2
                all_goals first
                  | exact absurd ((show ((textP f.pool d.nm).toList == (textP f.pool m.nm).toList) = true by assumption).symm.trans hs1) (by decide)
                  | skip
                go_roundg (gk - 1)
                case measure => exact hgg
                case rel => exact ⟨k + 1, by go_num, by omega, HNX.out.trans HF.out, FLI.out, BFI.out, BMI.out, BEI.out⟩
              | true =>
                have hs1 : ((textP f.pool d.nm).toList == (textP f.pool m.nm).toList) = true := (str_beq _ _).trans hn
                have HF := Lib.hid (show sameN f.pool d m = true from hn)
                have HRR := Lib.hid (show R = 15 by rw [HR1.out, HAL.out HF.out]; rfl)
                clear hn
                go_wp2
                all_goals first
                  | exact absurd ((show ((textP f.pool d.nm).toList == (textP f.pool m.nm).toList) = false by assumption).symm.trans hs1) (by decide)
                  | skip
                go_ret
                exact ⟨ret_i HRR.out.symm, BEI.out⟩
            · have hki : k = i := by omega
              have HRR := Lib.hid (show R = 0 by rw [HR1.out, ← hki, HANY.out]; rfl)
              clear hki
              go_wp2
              go_ret
              exact ⟨ret_i HRR.out.symm, BE3.out⟩
end Go.Proofs.Ytcgloepfnnfioaa
