/-
  WALK of the error of a body.
-/
import Derived.Test.YtcgloepfnnfioaaE7
set_option linter.unusedVariables false
set_option linter.unusedSimpArgs false
namespace Go.Proofs.Ytcgloepfnnfioaa
open Go.RowKit

/-- The error of a row of an exception table, over code of n bytes; of a member's body. -/
def hdlE (p : List Cn) (n : Nat) (h : Hd) : Int :=
  if h.fr < 0 ∨ h.to ≤ h.fr ∨ (n : Int) < h.to ∨ h.at_ < 0 ∨ (n : Int) ≤ h.at_ then 1 else if noneB p h.cl = true then 0 else 7
def bodyE (p : List Cn) (m : Mb) : Int :=
  if m.fl = 2 then extraE m
  else if m.ms < 0 ∨ 64 < m.ms ∨ m.ml < 0 ∨ 64 < m.ml then 26
  else if m.code.size = 0 then 5
  else if 4096 < m.code.size then 2
  else if 32 < m.hs.length then 3
  else firstErr (hdlE p m.code.size) m.hs
theorem HRow.len {B : Nat} {w : World} {v : Value} {hs : List Hd} (h : HRow B w v hs) : hs.length ≤ 9223372036854775807 := by
  obtain ⟨_, _, _, _, h, _⟩ := h
  unfold maxLen at h
  exact h
set_option maxRecDepth 1000000 in
set_option maxHeartbeats 6400000 in
theorem bodyErr_any {B : Nat} (f : Fl) (v : Value) (w : World) (hf : FileAt B w v f) (hB : B ≤ w.heap.size) (m : Mb) (A : Option Addr) (c : Nat) (hr : HRow B w (.slice A m.hs.length c) m.hs) :
    Calls Try.prog 46 #[v, .agg #[.int .i64 m.fl, .int .i64 m.nm, .int .i64 m.ds, .int .i64 m.ms, .int .i64 m.ml, .string m.code, .slice A m.hs.length c]] w fun e w' => e = .returned (.int .i64 (bodyE f.pool m)) ∧ Below w.heap.size w w' := by
  have hrl := hr.len
  have HX := Lib.hid (fun V W hW hWB => extraErr_any (B := B) f V W hW hWB m A c)
  have HN := Lib.hid (fun r V W hW hWB i h => none_at (B := B) r f V W hW hWB i h)
  obtain ⟨fl, nm, ds, ms, ml, code, hs⟩ := m
  simp only at hr hrl HX ⊢
  have HE := Lib.hid (show bodyE f.pool ⟨fl, nm, ds, ms, ml, code, hs⟩ = if fl = 2 then extraE ⟨fl, nm, ds, ms, ml, code, hs⟩
    else if ms < 0 ∨ 64 < ms ∨ ml < 0 ∨ 64 < ml then 26 else if code.size = 0 then 5 else if 4096 < code.size then 2 else if 32 < hs.length then 3
    else firstErr (hdlE f.pool code.size) hs from rfl)
  have HRW := Lib.hid hr
  clear hr
  generalize bodyE f.pool ⟨fl, nm, ds, ms, ml, code, hs⟩ = R at *
  obtain ⟨Ap, cp, Ai, ci, Af, cf, Am, cm, rfl, hi⟩ := id hf
  have FL := Lib.hid ((hf.alloc hB (.cells #[.slice Ap f.pool.length cp, .int .i64 f.fl, .int .i64 f.this, .int .i64 f.super, .slice Ai f.ifs.length ci, .slice Af f.fds.length cf, .slice Am f.mts.length cm] 26)).alloc (le_alloc hB _) (.cells #[.int .i64 fl, .int .i64 nm, .int .i64 ds, .int .i64 ms, .int .i64 ml, .string code, .slice A hs.length c] 38))
  have BE := Lib.hid (((Below.refl w.heap.size w).alloc (Nat.le_refl _) (.cells #[.slice Ap f.pool.length cp, .int .i64 f.fl, .int .i64 f.this, .int .i64 f.super, .slice Ai f.ifs.length ci, .slice Af f.fds.length cf, .slice Am f.mts.length cm] 26)).alloc (le_alloc (Nat.le_refl _) _) (.cells #[.int .i64 fl, .int .i64 nm, .int .i64 ds, .int .i64 ms, .int .i64 ml, .string code, .slice A hs.length c] 38))
  have BF := Lib.hid ((FBox.new Ap cp Ai ci Af cf Am cm f w).alloc (.cells #[.int .i64 fl, .int .i64 nm, .int .i64 ds, .int .i64 ms, .int .i64 ml, .string code, .slice A hs.length c] 38))
  have BM := Lib.hid (heap_new2 w (.cells #[.slice Ap f.pool.length cp, .int .i64 f.fl, .int .i64 f.this, .int .i64 f.super, .slice Ai f.ifs.length ci, .slice Af f.fds.length cf, .slice Am f.mts.length cm] 26) (.cells #[.int .i64 fl, .int .i64 nm, .int .i64 ds, .int .i64 ms, .int .i64 ml, .string code, .slice A hs.length c] 38))
  clear hi hf
  by_cases h2 : fl = 2
  · have HR := Lib.hid (show R = extraE ⟨fl, nm, ds, ms, ml, code, hs⟩ by rw [HE.out, if_pos h2])
    subst h2
    go_enter Try.func46, Try.ntmps46
    go_wp2_with fail
    refine (HX.out _ _ FL.out (by simp; omega)).mono ?_
    rintro e w1 ⟨rfl, hb⟩
    have BE1 := Lib.hid (Below.link BE.out hb)
    clear hb
    go_wp2
    go_ret
    exact ⟨ret_i HR.out.symm, BE1.out⟩
  have g2 : (fl == 2) = false := by simpa using h2
  by_cases hms : ms < 0 ∨ 64 < ms ∨ ml < 0 ∨ 64 < ml
  · have HR := Lib.hid (show R = 26 by rw [HE.out, if_neg h2, if_pos hms])
    clear h2 HE
    by_cases q1 : ms < 0
    · clear hms
      go_enter Try.func46, Try.ntmps46
      go_wp2
      go_ret
      exact ⟨ret_i HR.out.symm, BE.out⟩
    have q1' : 0 ≤ ms := by omega
    by_cases q2 : 64 < ms
    · clear hms q1
      go_enter Try.func46, Try.ntmps46
      go_wp2
      go_ret
      exact ⟨ret_i HR.out.symm, BE.out⟩
    have q2' : ms ≤ 64 := by omega
    by_cases q3 : ml < 0
    · clear hms q1 q2
      go_enter Try.func46, Try.ntmps46
      go_wp2
      go_ret
      exact ⟨ret_i HR.out.symm, BE.out⟩
    have q3' : 0 ≤ ml := by omega
    have q4 : 64 < ml := by omega
    clear hms q1 q2 q3
    go_enter Try.func46, Try.ntmps46
    go_wp2
    go_ret
    exact ⟨ret_i HR.out.symm, BE.out⟩
  have q1 : 0 ≤ ms := by omega
  have q2 : ms ≤ 64 := by omega
  have q3 : 0 ≤ ml := by omega
  have q4 : ml ≤ 64 := by omega
  rcases str_nil (s := code) with ⟨hx, e1, e2⟩ | ⟨hx, e1, e2⟩
  · have HR := Lib.hid (show R = 5 by rw [HE.out, if_neg h2, if_neg hms, if_pos hx])
    clear h2 HE hms
    go_enter Try.func46, Try.ntmps46
    go_wp2
    go_ret
    exact ⟨ret_i HR.out.symm, BE.out⟩
  by_cases h4 : 4096 < code.size
  · have HR := Lib.hid (show R = 2 by rw [HE.out, if_neg h2, if_neg hms, if_neg (by omega), if_pos h4])
    have h4' : (4096 : Int) < code.size := by omega
    clear h2 HE hms
    go_enter Try.func46, Try.ntmps46
    go_wp2
    go_ret
    exact ⟨ret_i HR.out.symm, BE.out⟩
  have h4' : (code.size : Int) ≤ 4096 := by omega
  by_cases h5 : 32 < hs.length
  · have HR := Lib.hid (show R = 3 by rw [HE.out, if_neg h2, if_neg hms, if_neg (by omega), if_neg h4, if_pos h5])
    have h5' : (32 : Int) < hs.length := by omega
    clear h2 HE hms h4
    go_enter Try.func46, Try.ntmps46
    go_wp2
    go_ret
    exact ⟨ret_i HR.out.symm, BE.out⟩
  have h5' : (hs.length : Int) ≤ 32 := by omega
  have HR := Lib.hid (show R = firstErr (hdlE f.pool code.size) hs by rw [HE.out, if_neg h2, if_neg hms, if_neg (by omega), if_neg h4, if_neg h5])
  clear h2 HE hms h4 h5
  go_enter Try.func46, Try.ntmps46
  go_wp2
  go_loopg [50] hs.length (fun g iv wx => ∃ k : Nat, iv = .int .i64 k ∧ k + g = hs.length ∧ firstErr (hdlE f.pool code.size) (hs.take k) = 0 ∧ FBox w.heap.size Ap cp Ai ci Af cf Am cm f wx ∧ wx.heap[w.heap.size + 1]? = some (.cells #[.int .i64 fl, .int .i64 nm, .int .i64 ds, .int .i64 ms, .int .i64 ml, .string code, .slice A hs.length c] 38 (0, 0)) ∧ FileAt B wx (.agg #[.slice Ap f.pool.length cp, .int .i64 f.fl, .int .i64 f.this, .int .i64 f.super, .slice Ai f.ifs.length ci, .slice Af f.fds.length cf, .slice Am f.mts.length cm]) f ∧ Below w.heap.size w wx)
  case atStart => exact ⟨0, rfl, by omega, rfl, BF.out, BM.out, FL.out, BE.out⟩
  case round =>
    obtain ⟨k, rfl, hkg, hfe, hbf, hbm, hfl, hbe⟩ := hrel
    have HFE := Lib.hid hfe
    have BF1 := Lib.hid hbf
    have BM1 := Lib.hid hbm
    have FL1 := Lib.hid hfl
    have BE1 := Lib.hid hbe
    have ltf := hbf.lt
    have ltm := lt_of_block hbm
    obtain ⟨c0, c1, c2, c3, c4, c5, c6⟩ := hbf.cells
    have m0 : wr.cell? ⟨w.heap.size + 1, 0, none⟩ = some (.int .i64 fl) := cells_of hbm 0
    have m1 : wr.cell? ⟨w.heap.size + 1, 1, none⟩ = some (.int .i64 nm) := cells_of hbm 1
    have m2 : wr.cell? ⟨w.heap.size + 1, 2, none⟩ = some (.int .i64 ds) := cells_of hbm 2
    have m3 : wr.cell? ⟨w.heap.size + 1, 3, none⟩ = some (.int .i64 ms) := cells_of hbm 3
    have m4 : wr.cell? ⟨w.heap.size + 1, 4, none⟩ = some (.int .i64 ml) := cells_of hbm 4
    have m5 : wr.cell? ⟨w.heap.size + 1, 5, none⟩ = some (.string code) := cells_of hbm 5
    have m6 : wr.cell? ⟨w.heap.size + 1, 6, none⟩ = some (.slice A hs.length c) := cells_of hbm 6
    clear hfe hbf hbm hfl hbe
    by_cases hk : k < hs.length
    · have hgg : gk - 1 < gk := by omega
      obtain ⟨x, hx⟩ : ∃ x, hs[k]? = some x := ⟨_, List.getElem?_eq_getElem hk⟩
      obtain ⟨b, o, rfl, hbb, x0, x1, x2, x3⟩ := (show HRow B wr _ hs from Row.keep HRW.out fun p hp => BE1.out.cell (p := p) (by omega)).at_ hx
      have HNX := Lib.hid (firstErr_next (hdlE f.pool code.size) hs k x hx HFE.out)
      have HST := Lib.hid (fun h => firstErr_stop (hdlE f.pool code.size) hs (k + 1) h)
      have HXE := Lib.hid (show hdlE f.pool code.size x = if x.fr < 0 ∨ x.to ≤ x.fr ∨ (code.size : Int) < x.to ∨ x.at_ < 0 ∨ (code.size : Int) ≤ x.at_ then 1 else if noneB f.pool x.cl = true then 0 else 7 from rfl)
      have FL2 := Lib.hid (FL1.out.alloc (by omega) (.cells #[.int .i64 x.fr, .int .i64 x.to, .int .i64 x.at_, .int .i64 x.cl] 76))
      clear hx
      by_cases hbad : x.fr < 0 ∨ x.to ≤ x.fr ∨ (code.size : Int) < x.to ∨ x.at_ < 0 ∨ (code.size : Int) ≤ x.at_
      · have HR1 := Lib.hid (show R = 1 by rw [HR.out, HST.out (by rw [HNX.out, HXE.out, if_pos hbad]; decide), HNX.out, HXE.out, if_pos hbad])
        have BE2 := Lib.hid (BE1.out.alloc (by omega) (.cells #[.int .i64 x.fr, .int .i64 x.to, .int .i64 x.at_, .int .i64 x.cl] 76))
        by_cases p1 : x.fr < 0
        · clear hbad
          go_wp2
          go_ret
          exact ⟨ret_i HR1.out.symm, BE2.out⟩
        have p1' : 0 ≤ x.fr := by omega
        by_cases p2 : x.to ≤ x.fr
        · clear hbad p1
          go_wp2
          go_ret
          exact ⟨ret_i HR1.out.symm, BE2.out⟩
        have p2' : x.fr < x.to := by omega
        by_cases p3 : (code.size : Int) < x.to
        · clear hbad p1 p2
          go_wp2
          go_ret
          exact ⟨ret_i HR1.out.symm, BE2.out⟩
        have p3' : x.to ≤ (code.size : Int) := by omega
        by_cases p4 : x.at_ < 0
        · clear hbad p1 p2 p3
          go_wp2
          go_ret
          exact ⟨ret_i HR1.out.symm, BE2.out⟩
        have p4' : 0 ≤ x.at_ := by omega
        have p5 : (code.size : Int) ≤ x.at_ := by omega
        clear hbad p1 p2 p3 p4
        go_wp2
        go_ret
        exact ⟨ret_i HR1.out.symm, BE2.out⟩
      · have p1' : 0 ≤ x.fr := by omega
        have p2' : x.fr < x.to := by omega
        have p3' : x.to ≤ (code.size : Int) := by omega
        have p4' : 0 ≤ x.at_ := by omega
        have p5' : x.at_ < (code.size : Int) := by omega
        have HXE2 := Lib.hid (show hdlE f.pool code.size x = if noneB f.pool x.cl = true then 0 else 7 by rw [HXE.out, if_neg hbad])
        clear hbad HXE
        cases hn : noneB f.pool x.cl with
        | false =>
          have HNB := Lib.hid hn
          have HR1 := Lib.hid (show R = 7 by rw [HR.out, HST.out (by rw [HNX.out, HXE2.out, hn]; decide), HNX.out, HXE2.out, hn]; rfl)
          clear hn
          go_wp2_with fail
          refine (HN.out false _ _ FL2.out (by simp; omega) _ HNB.out).mono ?_
          rintro e w1 ⟨rfl, hb⟩
          have BE2 := Lib.hid (Below.link (BE1.out.alloc (by omega) (.cells #[.int .i64 x.fr, .int .i64 x.to, .int .i64 x.at_, .int .i64 x.cl] 76)) hb)
          clear hb c0 c1 c2 c3 c4 c5 c6 m0 m1 m2 m3 m4 m5 m6 x0 x1 x2 x3
          go_wp2
          go_ret
          exact ⟨ret_i HR1.out.symm, BE2.out⟩
        | true =>
          have HNB := Lib.hid hn
          have HX0 := Lib.hid (show hdlE f.pool code.size x = 0 by rw [HXE2.out, hn]; rfl)
          clear hn
          go_wp2_with fail
          refine (HN.out true _ _ FL2.out (by simp; omega) _ HNB.out).mono ?_
          rintro e w1 ⟨rfl, hb⟩
          have BE2 := Lib.hid (Below.link (BE1.out.alloc (by omega) (.cells #[.int .i64 x.fr, .int .i64 x.to, .int .i64 x.at_, .int .i64 x.cl] 76)) hb)
          have BF2 := Lib.hid ((BF1.out.alloc (.cells #[.int .i64 x.fr, .int .i64 x.to, .int .i64 x.at_, .int .i64 x.cl] 76)).below hb (by simp; omega))
          have BM2 := Lib.hid (Below.keep hb (by simp; omega) (heap_alloc_lt (o := (.cells #[.int .i64 x.fr, .int .i64 x.to, .int .i64 x.at_, .int .i64 x.cl] 76)) BM1.out))
          have FL3 := Lib.hid (FL2.out.below hb (by simp; omega))
          clear hb c0 c1 c2 c3 c4 c5 c6 m0 m1 m2 m3 m4 m5 m6 x0 x1 x2 x3
          go_wp2
          go_roundg (gk - 1)
          case measure => exact hgg
          case rel => exact ⟨k + 1, by go_num, by omega, HNX.out.trans HX0.out, BF2.out, BM2.out, FL3.out, BE2.out⟩
    · have HA := Lib.hid (show R = 0 by rw [HR.out]; have := HFE.out; rwa [List.take_of_length_le (by omega)] at this)
      go_wp2
      go_ret
      exact ⟨ret_i HA.out.symm, BE1.out⟩
end Go.Proofs.Ytcgloepfnnfioaa
