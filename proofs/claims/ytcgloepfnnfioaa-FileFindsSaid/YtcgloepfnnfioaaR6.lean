/-
  WALK of the document's own error of a method.
-/
import Derived.Test.YtcgloepfnnfioaaR4
set_option linter.unusedVariables false
set_option linter.unusedSimpArgs false
namespace Go.Proofs.Ytcgloepfnnfioaa
open Go.RowKit

theorem pairE_zero {p : List Cn} {ffl last : Int} {m : Mb} {b : Bool} : True := trivial
theorem beq_lit (s t : ByteArray) (l : List UInt8) (h : t.toList = l) (b : Bool) (hb : decide (s = t) = b) : (s.toList == l) = b := by
  rw [← h, str_beq, hb]
set_option maxRecDepth 1000000 in
set_option maxHeartbeats 12800000 in
theorem refMethod_mem {B : Nat} (f : Fl) (v : Value) (w : World) (hf : FileAt B w v f) (hB : B ≤ w.heap.size) (ht : ∀ i, (textP f.pool i).size ≤ 1000000) (i : Nat) (m : Mb) (hm : f.mts[i]? = some m) (hp : ∀ k d, k < i → f.mts[k]? = some d → tagged f.pool d.nm 1 = true ∧ tagged f.pool d.ds 1 = true) :
    Calls Try.prog 62 #[v, .int .i64 i] w fun e w' => e = .returned (.int .i64 (memE [hdE f.pool f.fl 2 sigE, specE f.pool, bodyE f.pool] (sameM f.pool) f.mts i)) ∧ Below w.heap.size w w' := by
  have hil := (List.getElem?_eq_some_iff.1 hm).1
  obtain ⟨hm1, hm2, hm3, hm4⟩ := hf.max
  have HE := Lib.hid (show memE [hdE f.pool f.fl 2 sigE, specE f.pool, bodyE f.pool] (sameM f.pool) f.mts i = if (m.fl < 0 ∨ 2 < m.fl ∨ (m.fl = 0 ∧ f.fl = 3)) then 10 else if namedE f.pool m true = 0 then (if specE f.pool m = 0 then (if bodyE f.pool m = 0 then (if (f.mts.take i).any (fun d => sameM f.pool d m) = true then 15 else 0) else bodyE f.pool m) else specE f.pool m) else namedE f.pool m true by
    have h1 := hdE_named f.pool f.fl 2 m true
    rw [if_pos rfl] at h1
    unfold memE
    rw [hm]
    simp only [firstErr, h1]
    by_cases hc : (m.fl < 0 ∨ 2 < m.fl ∨ (m.fl = 0 ∧ f.fl = 3))
    · simp only [if_pos hc]
      simp
    · simp only [if_neg hc]
      by_cases hn : namedE f.pool m true = 0
      · simp only [hn]
        by_cases hs : specE f.pool m = 0
        · simp only [hs]
          by_cases hb : bodyE f.pool m = 0
          · simp [hb]
          · simp [hb]
        · simp [hs]
      · simp [hn])
  generalize memE [hdE f.pool f.fl 2 sigE, specE f.pool, bodyE f.pool] (sameM f.pool) f.mts i = R at *
  have HX := Lib.hid (fun V W hW hWB i h => reftext_any (B := B) f V W hW hWB i h)
  have HTG := Lib.hid (fun h => namedE_tags (p := f.pool) (m := m) (b := true) h)
  have HM := fun W => Lib.hid (refMethod_any (textP f.pool m.ds) W (ht _))
  obtain ⟨Ap, cp, Ai, ci, Af, cf, Am, cm, rfl, hi⟩ := id hf
  have hI1 := hi.keep (w' := w.alloc (.cells #[.slice Ap f.pool.length cp, .int .i64 f.fl, .int .i64 f.this, .int .i64 f.super, .slice Ai f.ifs.length ci, .slice Af f.fds.length cf, .slice Am f.mts.length cm] 26)) (fun p hp => World.cell?_alloc_lt w _ p (by omega))
  have HI := Lib.hid hi
  have HP := Lib.hid hp
  obtain ⟨p0, o0, A2, c2', rfl, hbb, hrow, x0, x1, x2, x3, x4, x5, x6⟩ := hI1.mts.at_ hm
  have HRW := Lib.hid hrow
  have HNM := Lib.hid (fun V W hW hWB => named_any (B := B) f V W hW hWB ht m A2 c2' true)
  have HBR := Lib.hid (fun W => bare_any W m A2 c2')
  have FL0 := Lib.hid ((hf.alloc hB (.cells #[.slice Ap f.pool.length cp, .int .i64 f.fl, .int .i64 f.this, .int .i64 f.super, .slice Ai f.ifs.length ci, .slice Af f.fds.length cf, .slice (some ⟨p0, o0, none⟩) f.mts.length cm] 26)).alloc (le_alloc hB _) (.cells #[.int .i64 m.fl, .int .i64 m.nm, .int .i64 m.ds, .int .i64 m.ms, .int .i64 m.ml, .string m.code, .slice A2 m.hs.length c2'] 38))
  have BEA := Lib.hid ((Below.refl w.heap.size w).alloc (Nat.le_refl _) (.cells #[.slice Ap f.pool.length cp, .int .i64 f.fl, .int .i64 f.this, .int .i64 f.super, .slice Ai f.ifs.length ci, .slice Af f.fds.length cf, .slice (some ⟨p0, o0, none⟩) f.mts.length cm] 26))
  have BE0 := Lib.hid (((Below.refl w.heap.size w).alloc (Nat.le_refl _) (.cells #[.slice Ap f.pool.length cp, .int .i64 f.fl, .int .i64 f.this, .int .i64 f.super, .slice Ai f.ifs.length ci, .slice Af f.fds.length cf, .slice (some ⟨p0, o0, none⟩) f.mts.length cm] 26)).alloc (le_alloc (Nat.le_refl _) _) (.cells #[.int .i64 m.fl, .int .i64 m.nm, .int .i64 m.ds, .int .i64 m.ms, .int .i64 m.ml, .string m.code, .slice A2 m.hs.length c2'] 38))
  have BF0 := Lib.hid ((FBox.new Ap cp Ai ci Af cf (some ⟨p0, o0, none⟩) cm f w).alloc (.cells #[.int .i64 m.fl, .int .i64 m.nm, .int .i64 m.ds, .int .i64 m.ms, .int .i64 m.ml, .string m.code, .slice A2 m.hs.length c2'] 38))
  have BM0 := Lib.hid (show MBox (w.heap.size + 1) m A2 c2' _ from heap_new2 w (.cells #[.slice Ap f.pool.length cp, .int .i64 f.fl, .int .i64 f.this, .int .i64 f.super, .slice Ai f.ifs.length ci, .slice Af f.fds.length cf, .slice (some ⟨p0, o0, none⟩) f.mts.length cm] 26) (.cells #[.int .i64 m.fl, .int .i64 m.nm, .int .i64 m.ds, .int .i64 m.ms, .int .i64 m.ml, .string m.code, .slice A2 m.hs.length c2'] 38))
  have hwk : IntKind.i64.wrap (i : Int) = i := IntWalk.i64_in _ (by omega)
  have hil' : (i : Int) < f.mts.length := by omega
  clear hi hf hm hp hI1 hrow ht
  by_cases hc : (m.fl < 0 ∨ 2 < m.fl ∨ (m.fl = 0 ∧ f.fl = 3))
  · have HR := Lib.hid (show R = 10 by rw [HE.out, if_pos hc])
    clear HE
    rcases (show m.fl < 0 ∨ (0 ≤ m.fl ∧ 2 < m.fl) ∨ (m.fl = 0 ∧ f.fl = 3) by omega) with h | ⟨h, h'⟩ | ⟨h, h'⟩
    · clear hc
      go_enter Try.func62, Try.ntmps62
      go_wp2
      go_ret
      exact ⟨ret_i HR.out.symm, BE0.out⟩
    · clear hc
      go_enter Try.func62, Try.ntmps62
      go_wp2
      go_ret
      exact ⟨ret_i HR.out.symm, BE0.out⟩
    · have g0 : (m.fl == 0) = true := by simpa using h
      have g3 : (f.fl == 3) = true := by simpa using h'
      have gl1 : 0 ≤ m.fl := by omega
      have gl2 : m.fl ≤ 2 := by omega
      clear hc h h'
      go_enter Try.func62, Try.ntmps62
      go_wp2
      go_ret
      exact ⟨ret_i HR.out.symm, BE0.out⟩
  · have HR := Lib.hid (show R = if namedE f.pool m true = 0 then (if specE f.pool m = 0 then (if bodyE f.pool m = 0 then (if (f.mts.take i).any (fun d => sameM f.pool d m) = true then 15 else 0) else bodyE f.pool m) else specE f.pool m) else namedE f.pool m true by rw [HE.out, if_neg hc])
    clear HE
    generalize namedE f.pool m true = E at *
    rcases (show (m.fl = 0 ∧ ¬ f.fl = 3) ∨ m.fl = 1 ∨ m.fl = 2 by omega) with ⟨hz, h3⟩ | hz | hz
    · have g3 : (f.fl == 3) = false := by simpa using h3
      clear hc h3
      have HFLZ := Lib.hid hz
      have gl1 : 0 ≤ m.fl := by omega
      have gl2 : m.fl ≤ 2 := by omega
      have g0 : (m.fl == 0) = true := by simp [hz]
      have g0' : (m.fl != 0) = false := by simp [hz]
      have g1 : (m.fl == 1) = false := by simp [hz]
      have g1' : (m.fl != 1) = true := by simp [hz]
      have g2 : (m.fl == 2) = false := by simp [hz]
      have g2' : (m.fl != 2) = true := by simp [hz]
      have HNE := Lib.hid (show m.fl ≠ 2 by omega)
      clear hz
      rcases (Classical.em (E = 0)).symm with hE | hE
      · have HR1 := Lib.hid (show R = E by rw [HR.out, if_neg hE])
        have ge : (E == 0) = false := by simpa using hE
        have ge' : (E != 0) = true := by simpa using hE
        clear hE
        go_enter Try.func62, Try.ntmps62
        go_wp2_with fail
        refine (HNM.out _ _ FL0.out (Nat.le_trans hB BE0.out.size)).mono ?_
        rintro e w1 ⟨rfl, hb⟩
        have BE1 := Lib.hid (Below.link BE0.out hb)
        have FL1 := Lib.hid (FL0.out.below hb (Nat.le_trans hB BE0.out.size))
        have BF1 := Lib.hid (BF0.out.below hb BF0.out.lt)
        have ltBF1 := BF1.out.lt
        have BM1 := Lib.hid (BM0.out.below hb BM0.out.lt)
        have ltBM1 := BM1.out.lt
        clear hb
        obtain ⟨c0, c1, c2, c3, c4, c5, c6⟩ := BF1.out.cells
        obtain ⟨m0, m1, m2, m3, m4, m5, m6⟩ := BM1.out.cells
        go_wp2
        go_ret
        exact ⟨ret_i HR1.out.symm, BE1.out⟩
      subst hE
      obtain ⟨tg1, tg2⟩ := HTG.out rfl
      have T1 := Lib.hid tg1
      have T2 := Lib.hid tg2
      clear tg1 tg2
      obtain ⟨⟨xs, ⟨dd, rn⟩, vo, er⟩, hx⟩ : ∃ x, res (methL (L (textP f.pool m.ds))) = x := ⟨_, rfl⟩
      have HVB := Lib.hid (show voidB (textP f.pool m.ds) = vo by unfold voidB; rw [hx])
      rw [hx] at HM
      unfold sgV at HM
      simp only at HM
      clear hx
      go_enter Try.func62, Try.ntmps62
      go_wp2_with fail
      refine (HNM.out _ _ FL0.out (Nat.le_trans hB BE0.out.size)).mono ?_
      rintro e w1 ⟨rfl, hb⟩
      have BE1 := Lib.hid (Below.link BE0.out hb)
      have FL1 := Lib.hid (FL0.out.below hb (Nat.le_trans hB BE0.out.size))
      have BF1 := Lib.hid (BF0.out.below hb BF0.out.lt)
      have ltBF1 := BF1.out.lt
      have BM1 := Lib.hid (BM0.out.below hb BM0.out.lt)
      have ltBM1 := BM1.out.lt
      clear hb
      obtain ⟨c0, c1, c2, c3, c4, c5, c6⟩ := BF1.out.cells
      obtain ⟨m0, m1, m2, m3, m4, m5, m6⟩ := BM1.out.cells
      go_wp2_with fail
      refine (HX.out _ _ FL1.out (Nat.le_trans hB BE1.out.size) _ T1.out).mono ?_
      rintro e w2 ⟨rfl, hb⟩
      have BE2 := Lib.hid (Below.link BE1.out hb)
      have FL2 := Lib.hid (FL1.out.below hb (Nat.le_trans hB BE1.out.size))
      have BF2 := Lib.hid (BF1.out.below hb BF1.out.lt)
      have ltBF2 := BF2.out.lt
      have BM2 := Lib.hid (BM1.out.below hb BM1.out.lt)
      have ltBM2 := BM2.out.lt
      clear hb
      clear c0 c1 c2 c3 c4 c5 c6 m0 m1 m2 m3 m4 m5 m6
      obtain ⟨c0, c1, c2, c3, c4, c5, c6⟩ := BF2.out.cells
      obtain ⟨m0, m1, m2, m3, m4, m5, m6⟩ := BM2.out.cells
      go_wp2_with fail
      refine (HX.out _ _ FL2.out (Nat.le_trans hB BE2.out.size) _ T2.out).mono ?_
      rintro e w3 ⟨rfl, hb⟩
      have BE3 := Lib.hid (Below.link BE2.out hb)
      have FL3 := Lib.hid (FL2.out.below hb (Nat.le_trans hB BE2.out.size))
      have BF3 := Lib.hid (BF2.out.below hb BF2.out.lt)
      have ltBF3 := BF3.out.lt
      have BM3 := Lib.hid (BM2.out.below hb BM2.out.lt)
      have ltBM3 := BM3.out.lt
      clear hb
      clear c0 c1 c2 c3 c4 c5 c6 m0 m1 m2 m3 m4 m5 m6
      obtain ⟨c0, c1, c2, c3, c4, c5, c6⟩ := BF3.out.cells
      obtain ⟨m0, m1, m2, m3, m4, m5, m6⟩ := BM3.out.cells
      go_wp2_with fail
      refine (HM _).out.mono ?_
      rintro e w4 ⟨v4, rfl, own, hb⟩
      obtain ⟨a4, c4', rfl⟩ := own_form own
      clear own
      generalize xs.length = nx at *
      have BE4 := Lib.hid (Below.link BE3.out hb)
      have FL4 := Lib.hid (FL3.out.below hb (Nat.le_trans hB BE3.out.size))
      have BF4 := Lib.hid (BF3.out.below hb BF3.out.lt)
      have ltBF4 := BF4.out.lt
      have BM4 := Lib.hid (BM3.out.below hb BM3.out.lt)
      have ltBM4 := BM4.out.lt
      clear hb
      clear c0 c1 c2 c3 c4 c5 c6 m0 m1 m2 m3 m4 m5 m6
      obtain ⟨c0, c1, c2, c3, c4, c5, c6⟩ := BF4.out.cells
      obtain ⟨m0, m1, m2, m3, m4, m5, m6⟩ := BM4.out.cells
      have FL5 := Lib.hid (FL4.out.alloc (Nat.le_trans hB BE4.out.size) (.cells #[.slice a4 nx c4', .int .i64 dd, .string (mkB rn), .bool vo] 112))
      have BE5 := Lib.hid (BE4.out.alloc BE4.out.size (.cells #[.slice a4 nx c4', .int .i64 dd, .string (mkB rn), .bool vo] 112))
      have BF5 := Lib.hid (BF4.out.alloc (.cells #[.slice a4 nx c4', .int .i64 dd, .string (mkB rn), .bool vo] 112))
      have BM5 := Lib.hid (BM4.out.alloc (.cells #[.slice a4 nx c4', .int .i64 dd, .string (mkB rn), .bool vo] 112))
      by_cases hi1 : textP f.pool m.nm = initN
      · have hc1 : ¬ textP f.pool m.nm = clinitN := by rw [hi1]; decide
        cases vo with
        | false =>
          have HSP := Lib.hid (show specE f.pool m = 10 by unfold specE; rw [if_pos hi1, if_neg (fun h => by have h2 := h.2; rw [HVB.out] at h2; cases h2)])
          have e1 : ((textP f.pool m.nm).toList == [60, 105, 110, 105, 116, 62]) = true := beq_lit _ initN _ (toList_data initN) _ (by simpa using hi1)
          have e2 : ((textP f.pool m.nm).toList == [60, 99, 108, 105, 110, 105, 116, 62]) = false := beq_lit _ clinitN _ (toList_data clinitN) _ (by simpa using hc1)
          clear hi1 hc1
          have HRR := Lib.hid (show R = 10 by have h := HR.out; rw [HSP.out] at h; simpa using h)
          go_wp2
          go_ret
          exact ⟨ret_i HRR.out.symm, BE5.out⟩
        | true =>
          have HSP := Lib.hid (show specE f.pool m = 0 by unfold specE; rw [if_pos hi1, if_pos ⟨HFLZ.out, HVB.out⟩])
          have e1 : ((textP f.pool m.nm).toList == [60, 105, 110, 105, 116, 62]) = true := beq_lit _ initN _ (toList_data initN) _ (by simpa using hi1)
          have e2 : ((textP f.pool m.nm).toList == [60, 99, 108, 105, 110, 105, 116, 62]) = false := beq_lit _ clinitN _ (toList_data clinitN) _ (by simpa using hc1)
          clear hi1 hc1
          have HRC := Lib.hid (show R = if bodyE f.pool m = 0 then (if (f.mts.take i).any (fun d => sameM f.pool d m) = true then 15 else 0) else bodyE f.pool m by have h := HR.out; rw [HSP.out] at h; simpa using h)
          have HCB := Lib.hid (refCoded_any f _ _ FL5.out (Nat.le_trans hB BE5.out.size) m A2 c2' (show HRow B _ (.slice A2 m.hs.length c2') m.hs from Row.keep HRW.out fun p hp => (BE5.out.cell (p := p) (by omega)).trans (BEA.out.cell (p := p) (by omega)).symm) HNE.out)
          generalize bodyE f.pool m = E2 at *
          go_wp2_with fail
          refine (HCB.out).mono ?_
          rintro e w6 ⟨rfl, hb⟩
          have BE6 := Lib.hid (Below.link BE5.out hb)
          have FL6 := Lib.hid (FL5.out.below hb (Nat.le_trans hB BE5.out.size))
          have BF6 := Lib.hid (BF5.out.below hb BF5.out.lt)
          have ltBF6 := BF6.out.lt
          have BM6 := Lib.hid (BM5.out.below hb BM5.out.lt)
          have ltBM6 := BM6.out.lt
          clear hb
          clear c0 c1 c2 c3 c4 c5 c6 m0 m1 m2 m3 m4 m5 m6
          obtain ⟨c0, c1, c2, c3, c4, c5, c6⟩ := BF6.out.cells
          obtain ⟨m0, m1, m2, m3, m4, m5, m6⟩ := BM6.out.cells
          rcases (Classical.em (E2 = 0)).symm with hE2 | hE2
          · have HRR := Lib.hid (show R = E2 by rw [HRC.out, if_neg hE2])
            have ge2 : (E2 == 0) = false := by simpa using hE2
            have ge2' : (E2 != 0) = true := by simpa using hE2
            clear hE2
            go_wp2
            go_ret
            exact ⟨ret_i HRR.out.symm, BE6.out⟩
          · subst hE2
            have HRL := Lib.hid (show R = (if (f.mts.take i).any (fun d => sameM f.pool d m) = true then 15 else 0) by rw [HRC.out, if_pos rfl])
            go_wp2
            go_loopg [12] i (fun g iv wx => ∃ k : Nat, iv = .int .i64 k ∧ k + g = i ∧ (f.mts.take k).any (fun d => sameM f.pool d m) = false ∧ FileAt B wx (.agg #[.slice Ap f.pool.length cp, .int .i64 f.fl, .int .i64 f.this, .int .i64 f.super, .slice Ai f.ifs.length ci, .slice Af f.fds.length cf, .slice (some ⟨p0, o0, none⟩) f.mts.length cm]) f ∧ FBox w.heap.size Ap cp Ai ci Af cf (some ⟨p0, o0, none⟩) cm f wx ∧ Below w.heap.size w wx)
            case atStart => exact ⟨0, rfl, by omega, by simp, FL6.out, BF6.out, BE6.out⟩
            case round =>
              obtain ⟨k, rfl, hkg, hany, hfl, hbf, hbe⟩ := hrel
              have HANY := Lib.hid hany
              have FL9 := Lib.hid hfl
              have BF9 := Lib.hid hbf
              have BE9 := Lib.hid hbe
              have ltBF9 := hbf.lt
              clear hany hfl hbf hbe c0 c1 c2 c3 c4 c5 c6 m0 m1 m2 m3 m4 m5 m6
              obtain ⟨c0, c1, c2, c3, c4, c5, c6⟩ := BF9.out.cells
              by_cases hlt : k < i
              · have hgg : gk - 1 < gk := by omega
                obtain ⟨d, hd⟩ : ∃ d, f.mts[k]? = some d := ⟨_, List.getElem?_eq_getElem (by omega)⟩
                have TD1 := Lib.hid (HP.out k d hlt hd).1
                have TD2 := Lib.hid (HP.out k d hlt hd).2
                have HNX := Lib.hid (any_next (g := fun d => sameM f.pool d m) hd HANY.out)
                have HAL := Lib.hid (fun h => any_later (g := fun d => sameM f.pool d m) hd hlt h)
                have hI3 := HI.out.keep (w' := wr) (fun p hp => BE9.out.cell (p := p) (by omega))
                obtain ⟨p1, o1, A3, c3', e1, hb1, hrow1, -, y1, y2, -, -, -, -⟩ := hI3.mts.at_ hd
                injection e1 with e1
                injection e1 with e2 e3 e4
                subst e2 e3
                have hwk2 : IntKind.i64.wrap (k : Int) = k := IntWalk.i64_in _ (by omega)
                have hlk : (k : Int) < f.mts.length := by omega
                have hpw : p0 < w.heap.size := by omega
                have hsz9 : w.heap.size ≤ wr.heap.size := by omega
                clear hd hI3 hrow1 e4
                cases hn : decide (textP f.pool d.nm = textP f.pool m.nm) with
                | false =>
                  have hs1 : ((textP f.pool d.nm).toList == (textP f.pool m.nm).toList) = false := (str_beq _ _).trans hn
                  have HF := Lib.hid (show sameM f.pool d m = false by unfold sameM sameN; rw [hn]; rfl)
                  clear hn
                  go_wp2
                  refine wp_region_held_drew (S := (fun w' => FBox w.heap.size Ap cp Ai ci Af cf (some ⟨p0, o0, none⟩) cm f w' ∧ FileAt B w' (.agg #[.slice Ap f.pool.length cp, .int .i64 f.fl, .int .i64 f.this, .int .i64 f.super, .slice Ai f.ifs.length ci, .slice Af f.fds.length cf, .slice (some ⟨p0, o0, none⟩) f.mts.length cm]) f ∧ w'.cell? ⟨w.heap.size, 0, none⟩ = some (.slice Ap f.pool.length cp) ∧ w'.cell? ⟨w.heap.size, 1, none⟩ = some (.int .i64 f.fl) ∧ w'.cell? ⟨w.heap.size, 2, none⟩ = some (.int .i64 f.this) ∧ w'.cell? ⟨w.heap.size, 3, none⟩ = some (.int .i64 f.super) ∧ w'.cell? ⟨w.heap.size, 4, none⟩ = some (.slice Ai f.ifs.length ci) ∧ w'.cell? ⟨w.heap.size, 5, none⟩ = some (.slice Af f.fds.length cf) ∧ w'.cell? ⟨w.heap.size, 6, none⟩ = some (.slice (some ⟨p0, o0, none⟩) f.mts.length cm) ∧ w'.cell? ⟨p0, o0 + k * 7 + 1, none⟩ = some (.int .i64 d.nm) ∧ w'.cell? ⟨p0, o0 + k * 7 + 2, none⟩ = some (.int .i64 d.ds) ∧ w.heap.size ≤ w'.heap.size ∧ Below w.heap.size w w')) (by kernel_rfl) (⟨BF9.out.drew, FL9.out.drew, c0, c1, c2, c3, c4, c5, c6, y1, y2, hsz9, BE9.out.drew⟩) (fun hH => ?_)
                  refine wpAnyH_take (i := 0) (oi := ({ dst := some 98, op := Op.load 26 (Operand.tmp 2), type := 26, pos := "ref.go:173", after := #[], guard := none } : Oper)) (v := ?v1x0) rfl (by kernel_rfl) (by kernel_rfl) (by kernel_rfl) (fun _ _ _ h => h) (Or.inl ⟨by rfl, ?hy1x0⟩) hH ?_
                  case hy1x0 => ((intro w hSw); (try dsimp only at hSw); go_simp; try with_reducible rfl)
                  try simp only [Act.put, List.setIfInBounds_toArray, List.set_cons_zero, List.set_cons_succ]
                  refine wpAnyH_take (i := 1) (oi := ({ dst := some 99, op := Op.fieldAddr 26 (Operand.tmp 2) 6, type := 0, pos := "ref.go:173", after := #[], guard := none } : Oper)) (v := ?v1x1) rfl (by kernel_rfl) (by kernel_rfl) (by kernel_rfl) (fun _ _ _ h => h) (Or.inl ⟨by rfl, ?hy1x1⟩) hH ?_
                  case hy1x1 => ((intro w hSw); (try dsimp only at hSw); go_simp; try with_reducible rfl)
                  try simp only [Act.put, List.setIfInBounds_toArray, List.set_cons_zero, List.set_cons_succ]
                  refine wpAnyH_take (i := 2) (oi := ({ dst := some 100, op := Op.load 24 (Operand.tmp 99), type := 24, pos := "ref.go:173", after := #[{ on := 1, ground := Ground.data }], guard := none } : Oper)) (v := ?v1x2) rfl (by kernel_rfl) (by kernel_rfl) (by kernel_rfl) (fun _ _ _ h => h) (Or.inl ⟨by rfl, ?hy1x2⟩) hH ?_
                  case hy1x2 => ((intro w hSw); (try dsimp only at hSw); go_simp; try with_reducible rfl)
                  try simp only [Act.put, List.setIfInBounds_toArray, List.set_cons_zero, List.set_cons_succ]
                  refine wpAnyH_take (i := 3) (oi := ({ dst := some 101, op := Op.move (Operand.tmp 12), type := 3, pos := "ref.go:173", after := #[], guard := none } : Oper)) (v := ?v1x3) rfl (by kernel_rfl) (by kernel_rfl) (by kernel_rfl) (fun _ _ _ h => h) (Or.inl ⟨by rfl, ?hy1x3⟩) hH ?_
                  case hy1x3 => ((intro w hSw); (try dsimp only at hSw); go_simp; try with_reducible rfl)
                  try simp only [Act.put, List.setIfInBounds_toArray, List.set_cons_zero, List.set_cons_succ]
                  refine wpAnyH_take (i := 4) (oi := ({ dst := some 102, op := Op.indexAddr 24 (Operand.tmp 100) (Operand.tmp 101), type := 0, pos := "ref.go:173", after := #[{ on := 2, ground := Ground.data }, { on := 3, ground := Ground.data }], guard := none } : Oper)) (v := ?v1x4) rfl (by kernel_rfl) (by kernel_rfl) (by kernel_rfl) (fun _ _ _ h => h) (Or.inl ⟨by rfl, ?hy1x4⟩) hH ?_
                  case hy1x4 => ((intro w hSw); (try dsimp only at hSw); go_simp; try with_reducible rfl)
                  try simp only [Act.put, List.setIfInBounds_toArray, List.set_cons_zero, List.set_cons_succ]
                  refine wpAnyH_take (i := 5) (oi := ({ dst := some 103, op := Op.fieldAddr 38 (Operand.tmp 102) 1, type := 0, pos := "ref.go:173", after := #[{ on := 4, ground := Ground.data }], guard := none } : Oper)) (v := ?v1x5) rfl (by kernel_rfl) (by kernel_rfl) (by kernel_rfl) (fun _ _ _ h => h) (Or.inl ⟨by rfl, ?hy1x5⟩) hH ?_
                  case hy1x5 => ((intro w hSw); (try dsimp only at hSw); go_simp; try with_reducible rfl)
                  try simp only [Act.put, List.setIfInBounds_toArray, List.set_cons_zero, List.set_cons_succ]
                  refine wpAnyH_take (i := 6) (oi := ({ dst := some 104, op := Op.load 3 (Operand.tmp 103), type := 3, pos := "ref.go:173", after := #[{ on := 5, ground := Ground.data }], guard := none } : Oper)) (v := ?v1x6) rfl (by kernel_rfl) (by kernel_rfl) (by kernel_rfl) (fun _ _ _ h => h) (Or.inl ⟨by rfl, ?hy1x6⟩) hH ?_
                  case hy1x6 => ((intro w hSw); (try dsimp only at hSw); go_simp; try with_reducible rfl)
                  try simp only [Act.put, List.setIfInBounds_toArray, List.set_cons_zero, List.set_cons_succ]
                  refine wpAnyH_take (i := 8) (oi := ({ dst := some 106, op := Op.move (Operand.tmp 7), type := 9, pos := "ref.go:173", after := #[], guard := none } : Oper)) (v := ?v1x8) rfl (by kernel_rfl) (by kernel_rfl) (by kernel_rfl) (fun _ _ _ h => h) (Or.inl ⟨by rfl, ?hy1x8⟩) hH ?_
                  case hy1x8 => ((intro w hSw); (try dsimp only at hSw); go_simp; try with_reducible rfl)
                  try simp only [Act.put, List.setIfInBounds_toArray, List.set_cons_zero, List.set_cons_succ]
                  refine wpAnyH_ready (rs := [7]) (by kernel_rfl) (by simp) ?_
                  refine AllReadyH.cons (o := _) rfl (fun K hK => ?_) AllReadyH.nil
                  go_simp
                  go_at_call 32
                  refine (HX.out _ wr.drew hH.2.1 (by have := hH.2.2.2.2.2.2.2.2.2.2.2.1; omega) _ TD1.out).mono ?_
                  rintro e wz0 ⟨rfl, hb0⟩
                  try go_wp2_with fail
                  have hF := FBox.below hH.1 hb0 (FBox.lt hH.1)
                  have hFA := FileAt.below hH.2.1 hb0 (show B ≤ (wr.drew).heap.size by have := hH.2.2.2.2.2.2.2.2.2.2.2.1; omega)
                  have hy1 := keepc hb0 (B := w.heap.size) hpw hH.2.2.2.2.2.2.2.2.2.2.2.1 hH.2.2.2.2.2.2.2.2.2.1
                  have hy2 := keepc hb0 (B := w.heap.size) hpw hH.2.2.2.2.2.2.2.2.2.2.2.1 hH.2.2.2.2.2.2.2.2.2.2.1
                  have hss := Nat.le_trans hH.2.2.2.2.2.2.2.2.2.2.2.1 hb0.size
                  have hBE := Below.link hH.2.2.2.2.2.2.2.2.2.2.2.2 hb0
                  obtain ⟨c0', c1', c2', c3', c4', c5', c6'⟩ := hF.cells
                  refine hK.out _ _ ⟨hF, hFA, c0', c1', c2', c3', c4', c5', c6', hy1, hy2, hss, hBE⟩ (fun hH1 => ?_)
                  clear hK K hH hF hFA hy1 hy2 hss hBE c0' c1' c2' c3' c4' c5' c6' hb0
                  try simp only [Act.put, List.setIfInBounds_toArray, List.set_cons_zero, List.set_cons_succ]
                  refine wpAnyH_take (i := 9) (oi := ({ dst := some 107, op := Op.binOp BinOp.eql 9 (Operand.tmp 105) (Operand.tmp 106) 9, type := 4, pos := "ref.go:173", after := #[{ on := 7, ground := Ground.data }, { on := 8, ground := Ground.data }], guard := none } : Oper)) (v := ?v1x9) rfl (by kernel_rfl) (by kernel_rfl) (by kernel_rfl) (fun _ _ _ h => h) (Or.inl ⟨by rfl, ?hy1x9⟩) hH1 ?_
                  case hy1x9 => ((intro w hSw); (try dsimp only at hSw); go_simp; try with_reducible rfl)
                  try simp only [Act.put, List.setIfInBounds_toArray, List.set_cons_zero, List.set_cons_succ]
                  refine wpAnyH_take (i := 10) (oi := ({ dst := some 108, op := Op.move (Operand.tmp 107), type := 4, pos := "ref.go:173", after := #[{ on := 9, ground := Ground.data }, { on := 7, ground := Ground.chain }], guard := none } : Oper)) (v := ?v1x10) rfl (by kernel_rfl) (by kernel_rfl) (by kernel_rfl) (fun _ _ _ h => h) (Or.inl ⟨by rfl, ?hy1x10⟩) hH1 ?_
                  case hy1x10 => ((intro w hSw); (try dsimp only at hSw); go_simp; try with_reducible rfl)
                  try simp only [Act.put, List.setIfInBounds_toArray, List.set_cons_zero, List.set_cons_succ]
                  refine wpAnyH_take (i := 11) (oi := ({ dst := some 109, op := Op.load 26 (Operand.tmp 2), type := 26, pos := "ref.go:173", after := #[{ on := 10, ground := Ground.guard }], guard := some (10, true) } : Oper)) (v := undef) rfl (by kernel_rfl) (by kernel_rfl) (by kernel_rfl) (fun _ _ _ h => h) (Or.inr ⟨by rfl, rfl⟩) hH1 ?_
                  try simp only [Act.put, List.setIfInBounds_toArray, List.set_cons_zero, List.set_cons_succ]
                  refine wpAnyH_take (i := 12) (oi := ({ dst := some 110, op := Op.fieldAddr 26 (Operand.tmp 2) 6, type := 0, pos := "ref.go:173", after := #[{ on := 10, ground := Ground.guard }], guard := some (10, true) } : Oper)) (v := undef) rfl (by kernel_rfl) (by kernel_rfl) (by kernel_rfl) (fun _ _ _ h => h) (Or.inr ⟨by rfl, rfl⟩) hH1 ?_
                  try simp only [Act.put, List.setIfInBounds_toArray, List.set_cons_zero, List.set_cons_succ]
                  refine wpAnyH_take (i := 13) (oi := ({ dst := some 111, op := Op.load 24 (Operand.tmp 110), type := 24, pos := "ref.go:173", after := #[{ on := 12, ground := Ground.data }, { on := 10, ground := Ground.guard }], guard := some (10, true) } : Oper)) (v := undef) rfl (by kernel_rfl) (by kernel_rfl) (by kernel_rfl) (fun _ _ _ h => h) (Or.inr ⟨by rfl, rfl⟩) hH1 ?_
                  try simp only [Act.put, List.setIfInBounds_toArray, List.set_cons_zero, List.set_cons_succ]
                  refine wpAnyH_take (i := 14) (oi := ({ dst := some 112, op := Op.move (Operand.tmp 12), type := 3, pos := "ref.go:173", after := #[{ on := 10, ground := Ground.guard }], guard := some (10, true) } : Oper)) (v := undef) rfl (by kernel_rfl) (by kernel_rfl) (by kernel_rfl) (fun _ _ _ h => h) (Or.inr ⟨by rfl, rfl⟩) hH1 ?_
                  try simp only [Act.put, List.setIfInBounds_toArray, List.set_cons_zero, List.set_cons_succ]
                  refine wpAnyH_take (i := 15) (oi := ({ dst := some 113, op := Op.indexAddr 24 (Operand.tmp 111) (Operand.tmp 112), type := 0, pos := "ref.go:173", after := #[{ on := 13, ground := Ground.data }, { on := 14, ground := Ground.data }, { on := 10, ground := Ground.guard }], guard := some (10, true) } : Oper)) (v := undef) rfl (by kernel_rfl) (by kernel_rfl) (by kernel_rfl) (fun _ _ _ h => h) (Or.inr ⟨by rfl, rfl⟩) hH1 ?_
                  try simp only [Act.put, List.setIfInBounds_toArray, List.set_cons_zero, List.set_cons_succ]
                  refine wpAnyH_take (i := 16) (oi := ({ dst := some 114, op := Op.fieldAddr 38 (Operand.tmp 113) 2, type := 0, pos := "ref.go:173", after := #[{ on := 15, ground := Ground.data }, { on := 10, ground := Ground.guard }], guard := some (10, true) } : Oper)) (v := undef) rfl (by kernel_rfl) (by kernel_rfl) (by kernel_rfl) (fun _ _ _ h => h) (Or.inr ⟨by rfl, rfl⟩) hH1 ?_
                  try simp only [Act.put, List.setIfInBounds_toArray, List.set_cons_zero, List.set_cons_succ]
                  refine wpAnyH_take (i := 17) (oi := ({ dst := some 115, op := Op.load 3 (Operand.tmp 114), type := 3, pos := "ref.go:173", after := #[{ on := 16, ground := Ground.data }, { on := 10, ground := Ground.guard }], guard := some (10, true) } : Oper)) (v := undef) rfl (by kernel_rfl) (by kernel_rfl) (by kernel_rfl) (fun _ _ _ h => h) (Or.inr ⟨by rfl, rfl⟩) hH1 ?_
                  try simp only [Act.put, List.setIfInBounds_toArray, List.set_cons_zero, List.set_cons_succ]
                  refine wpAnyH_take (i := 18) (oi := ({ dst := some 116, op := Op.call { callee := Callee.value (Operand.func 32), args := #[Operand.tmp 109, Operand.tmp 115], argTypes := #[26, 3] }, type := 9, pos := "ref.go:173", after := #[{ on := 11, ground := Ground.data }, { on := 17, ground := Ground.data }, { on := 10, ground := Ground.chain }, { on := 10, ground := Ground.guard }], guard := some (10, true) } : Oper)) (v := undef) rfl (by kernel_rfl) (by kernel_rfl) (by kernel_rfl) (fun _ _ _ h => h) (Or.inr ⟨by rfl, rfl⟩) hH1 ?_
                  try simp only [Act.put, List.setIfInBounds_toArray, List.set_cons_zero, List.set_cons_succ]
                  refine wpAnyH_take (i := 19) (oi := ({ dst := some 117, op := Op.move (Operand.tmp 8), type := 9, pos := "ref.go:173", after := #[{ on := 10, ground := Ground.guard }], guard := some (10, true) } : Oper)) (v := undef) rfl (by kernel_rfl) (by kernel_rfl) (by kernel_rfl) (fun _ _ _ h => h) (Or.inr ⟨by rfl, rfl⟩) hH1 ?_
                  try simp only [Act.put, List.setIfInBounds_toArray, List.set_cons_zero, List.set_cons_succ]
                  refine wpAnyH_take (i := 20) (oi := ({ dst := some 118, op := Op.binOp BinOp.eql 9 (Operand.tmp 116) (Operand.tmp 117) 9, type := 4, pos := "ref.go:173", after := #[{ on := 18, ground := Ground.data }, { on := 19, ground := Ground.data }, { on := 10, ground := Ground.guard }], guard := some (10, true) } : Oper)) (v := undef) rfl (by kernel_rfl) (by kernel_rfl) (by kernel_rfl) (fun _ _ _ h => h) (Or.inr ⟨by rfl, rfl⟩) hH1 ?_
                  try simp only [Act.put, List.setIfInBounds_toArray, List.set_cons_zero, List.set_cons_succ]
                  refine wpAnyH_take (i := 21) (oi := ({ dst := some 119, op := Op.pick (Operand.tmp 108) (Operand.tmp 118) (Operand.const (Value.bool false)), type := 4, pos := "ref.go:173", after := #[{ on := 10, ground := Ground.data }, { on := 20, ground := Ground.data }], guard := none } : Oper)) (v := ?v1x21) rfl (by kernel_rfl) (by kernel_rfl) (by kernel_rfl) (fun _ _ _ h => h) (Or.inl ⟨by rfl, ?hy1x21⟩) hH1 ?_
                  case hy1x21 => ((intro w hSw); (try dsimp only at hSw); go_simp; try with_reducible rfl)
                  try simp only [Act.put, List.setIfInBounds_toArray, List.set_cons_zero, List.set_cons_succ]
                  refine wpAnyH_done (by kernel_rfl) ?_ _
                  have FLI := Lib.hid hH1.2.1
                  have BFI := Lib.hid hH1.1
                  have BEI := Lib.hid hH1.2.2.2.2.2.2.2.2.2.2.2.2
                  clear hH1 c0 c1 c2 c3 c4 c5 c6 y1 y2
                  go_wp2
                  go_roundg (gk - 1)
                  case measure => exact hgg
                  case rel => exact ⟨k + 1, by go_num, by omega, HNX.out.trans HF.out, FLI.out, BFI.out, BEI.out⟩
                | true =>
                  cases hn2 : decide (textP f.pool d.ds = textP f.pool m.ds) with
                  | false =>
                    have hs1 : ((textP f.pool d.nm).toList == (textP f.pool m.nm).toList) = true := (str_beq _ _).trans hn
                    have hs2 : ((textP f.pool d.ds).toList == (textP f.pool m.ds).toList) = false := (str_beq _ _).trans hn2
                    have HF := Lib.hid (show sameM f.pool d m = false by unfold sameM sameN sameD; rw [hn, hn2]; rfl)
                    clear hn hn2
                    go_wp2
                    refine wp_region_held_drew (S := (fun w' => FBox w.heap.size Ap cp Ai ci Af cf (some ⟨p0, o0, none⟩) cm f w' ∧ FileAt B w' (.agg #[.slice Ap f.pool.length cp, .int .i64 f.fl, .int .i64 f.this, .int .i64 f.super, .slice Ai f.ifs.length ci, .slice Af f.fds.length cf, .slice (some ⟨p0, o0, none⟩) f.mts.length cm]) f ∧ w'.cell? ⟨w.heap.size, 0, none⟩ = some (.slice Ap f.pool.length cp) ∧ w'.cell? ⟨w.heap.size, 1, none⟩ = some (.int .i64 f.fl) ∧ w'.cell? ⟨w.heap.size, 2, none⟩ = some (.int .i64 f.this) ∧ w'.cell? ⟨w.heap.size, 3, none⟩ = some (.int .i64 f.super) ∧ w'.cell? ⟨w.heap.size, 4, none⟩ = some (.slice Ai f.ifs.length ci) ∧ w'.cell? ⟨w.heap.size, 5, none⟩ = some (.slice Af f.fds.length cf) ∧ w'.cell? ⟨w.heap.size, 6, none⟩ = some (.slice (some ⟨p0, o0, none⟩) f.mts.length cm) ∧ w'.cell? ⟨p0, o0 + k * 7 + 1, none⟩ = some (.int .i64 d.nm) ∧ w'.cell? ⟨p0, o0 + k * 7 + 2, none⟩ = some (.int .i64 d.ds) ∧ w.heap.size ≤ w'.heap.size ∧ Below w.heap.size w w')) (by kernel_rfl) (⟨BF9.out.drew, FL9.out.drew, c0, c1, c2, c3, c4, c5, c6, y1, y2, hsz9, BE9.out.drew⟩) (fun hH => ?_)
                    refine wpAnyH_take (i := 0) (oi := ({ dst := some 98, op := Op.load 26 (Operand.tmp 2), type := 26, pos := "ref.go:173", after := #[], guard := none } : Oper)) (v := ?v2x0) rfl (by kernel_rfl) (by kernel_rfl) (by kernel_rfl) (fun _ _ _ h => h) (Or.inl ⟨by rfl, ?hy2x0⟩) hH ?_
                    case hy2x0 => ((intro w hSw); (try dsimp only at hSw); go_simp; try with_reducible rfl)
                    try simp only [Act.put, List.setIfInBounds_toArray, List.set_cons_zero, List.set_cons_succ]
                    refine wpAnyH_take (i := 1) (oi := ({ dst := some 99, op := Op.fieldAddr 26 (Operand.tmp 2) 6, type := 0, pos := "ref.go:173", after := #[], guard := none } : Oper)) (v := ?v2x1) rfl (by kernel_rfl) (by kernel_rfl) (by kernel_rfl) (fun _ _ _ h => h) (Or.inl ⟨by rfl, ?hy2x1⟩) hH ?_
                    case hy2x1 => ((intro w hSw); (try dsimp only at hSw); go_simp; try with_reducible rfl)
                    try simp only [Act.put, List.setIfInBounds_toArray, List.set_cons_zero, List.set_cons_succ]
                    refine wpAnyH_take (i := 2) (oi := ({ dst := some 100, op := Op.load 24 (Operand.tmp 99), type := 24, pos := "ref.go:173", after := #[{ on := 1, ground := Ground.data }], guard := none } : Oper)) (v := ?v2x2) rfl (by kernel_rfl) (by kernel_rfl) (by kernel_rfl) (fun _ _ _ h => h) (Or.inl ⟨by rfl, ?hy2x2⟩) hH ?_
                    case hy2x2 => ((intro w hSw); (try dsimp only at hSw); go_simp; try with_reducible rfl)
                    try simp only [Act.put, List.setIfInBounds_toArray, List.set_cons_zero, List.set_cons_succ]
                    refine wpAnyH_take (i := 3) (oi := ({ dst := some 101, op := Op.move (Operand.tmp 12), type := 3, pos := "ref.go:173", after := #[], guard := none } : Oper)) (v := ?v2x3) rfl (by kernel_rfl) (by kernel_rfl) (by kernel_rfl) (fun _ _ _ h => h) (Or.inl ⟨by rfl, ?hy2x3⟩) hH ?_
                    case hy2x3 => ((intro w hSw); (try dsimp only at hSw); go_simp; try with_reducible rfl)
                    try simp only [Act.put, List.setIfInBounds_toArray, List.set_cons_zero, List.set_cons_succ]
                    refine wpAnyH_take (i := 4) (oi := ({ dst := some 102, op := Op.indexAddr 24 (Operand.tmp 100) (Operand.tmp 101), type := 0, pos := "ref.go:173", after := #[{ on := 2, ground := Ground.data }, { on := 3, ground := Ground.data }], guard := none } : Oper)) (v := ?v2x4) rfl (by kernel_rfl) (by kernel_rfl) (by kernel_rfl) (fun _ _ _ h => h) (Or.inl ⟨by rfl, ?hy2x4⟩) hH ?_
                    case hy2x4 => ((intro w hSw); (try dsimp only at hSw); go_simp; try with_reducible rfl)
                    try simp only [Act.put, List.setIfInBounds_toArray, List.set_cons_zero, List.set_cons_succ]
                    refine wpAnyH_take (i := 5) (oi := ({ dst := some 103, op := Op.fieldAddr 38 (Operand.tmp 102) 1, type := 0, pos := "ref.go:173", after := #[{ on := 4, ground := Ground.data }], guard := none } : Oper)) (v := ?v2x5) rfl (by kernel_rfl) (by kernel_rfl) (by kernel_rfl) (fun _ _ _ h => h) (Or.inl ⟨by rfl, ?hy2x5⟩) hH ?_
                    case hy2x5 => ((intro w hSw); (try dsimp only at hSw); go_simp; try with_reducible rfl)
                    try simp only [Act.put, List.setIfInBounds_toArray, List.set_cons_zero, List.set_cons_succ]
                    refine wpAnyH_take (i := 6) (oi := ({ dst := some 104, op := Op.load 3 (Operand.tmp 103), type := 3, pos := "ref.go:173", after := #[{ on := 5, ground := Ground.data }], guard := none } : Oper)) (v := ?v2x6) rfl (by kernel_rfl) (by kernel_rfl) (by kernel_rfl) (fun _ _ _ h => h) (Or.inl ⟨by rfl, ?hy2x6⟩) hH ?_
                    case hy2x6 => ((intro w hSw); (try dsimp only at hSw); go_simp; try with_reducible rfl)
                    try simp only [Act.put, List.setIfInBounds_toArray, List.set_cons_zero, List.set_cons_succ]
                    refine wpAnyH_take (i := 8) (oi := ({ dst := some 106, op := Op.move (Operand.tmp 7), type := 9, pos := "ref.go:173", after := #[], guard := none } : Oper)) (v := ?v2x8) rfl (by kernel_rfl) (by kernel_rfl) (by kernel_rfl) (fun _ _ _ h => h) (Or.inl ⟨by rfl, ?hy2x8⟩) hH ?_
                    case hy2x8 => ((intro w hSw); (try dsimp only at hSw); go_simp; try with_reducible rfl)
                    try simp only [Act.put, List.setIfInBounds_toArray, List.set_cons_zero, List.set_cons_succ]
                    refine wpAnyH_ready (rs := [7]) (by kernel_rfl) (by simp) ?_
                    refine AllReadyH.cons (o := _) rfl (fun K hK => ?_) AllReadyH.nil
                    go_simp
                    go_at_call 32
                    refine (HX.out _ wr.drew hH.2.1 (by have := hH.2.2.2.2.2.2.2.2.2.2.2.1; omega) _ TD1.out).mono ?_
                    rintro e wz0 ⟨rfl, hb0⟩
                    try go_wp2_with fail
                    have hF := FBox.below hH.1 hb0 (FBox.lt hH.1)
                    have hFA := FileAt.below hH.2.1 hb0 (show B ≤ (wr.drew).heap.size by have := hH.2.2.2.2.2.2.2.2.2.2.2.1; omega)
                    have hy1 := keepc hb0 (B := w.heap.size) hpw hH.2.2.2.2.2.2.2.2.2.2.2.1 hH.2.2.2.2.2.2.2.2.2.1
                    have hy2 := keepc hb0 (B := w.heap.size) hpw hH.2.2.2.2.2.2.2.2.2.2.2.1 hH.2.2.2.2.2.2.2.2.2.2.1
                    have hss := Nat.le_trans hH.2.2.2.2.2.2.2.2.2.2.2.1 hb0.size
                    have hBE := Below.link hH.2.2.2.2.2.2.2.2.2.2.2.2 hb0
                    obtain ⟨c0', c1', c2', c3', c4', c5', c6'⟩ := hF.cells
                    refine hK.out _ _ ⟨hF, hFA, c0', c1', c2', c3', c4', c5', c6', hy1, hy2, hss, hBE⟩ (fun hH1 => ?_)
                    clear hK K hH hF hFA hy1 hy2 hss hBE c0' c1' c2' c3' c4' c5' c6' hb0
                    try simp only [Act.put, List.setIfInBounds_toArray, List.set_cons_zero, List.set_cons_succ]
                    refine wpAnyH_take (i := 9) (oi := ({ dst := some 107, op := Op.binOp BinOp.eql 9 (Operand.tmp 105) (Operand.tmp 106) 9, type := 4, pos := "ref.go:173", after := #[{ on := 7, ground := Ground.data }, { on := 8, ground := Ground.data }], guard := none } : Oper)) (v := ?v2x9) rfl (by kernel_rfl) (by kernel_rfl) (by kernel_rfl) (fun _ _ _ h => h) (Or.inl ⟨by rfl, ?hy2x9⟩) hH1 ?_
                    case hy2x9 => ((intro w hSw); (try dsimp only at hSw); go_simp; try with_reducible rfl)
                    try simp only [Act.put, List.setIfInBounds_toArray, List.set_cons_zero, List.set_cons_succ]
                    refine wpAnyH_take (i := 10) (oi := ({ dst := some 108, op := Op.move (Operand.tmp 107), type := 4, pos := "ref.go:173", after := #[{ on := 9, ground := Ground.data }, { on := 7, ground := Ground.chain }], guard := none } : Oper)) (v := ?v2x10) rfl (by kernel_rfl) (by kernel_rfl) (by kernel_rfl) (fun _ _ _ h => h) (Or.inl ⟨by rfl, ?hy2x10⟩) hH1 ?_
                    case hy2x10 => ((intro w hSw); (try dsimp only at hSw); go_simp; try with_reducible rfl)
                    try simp only [Act.put, List.setIfInBounds_toArray, List.set_cons_zero, List.set_cons_succ]
                    refine wpAnyH_take (i := 11) (oi := ({ dst := some 109, op := Op.load 26 (Operand.tmp 2), type := 26, pos := "ref.go:173", after := #[{ on := 10, ground := Ground.guard }], guard := some (10, true) } : Oper)) (v := ?v2x11) rfl (by kernel_rfl) (by kernel_rfl) (by kernel_rfl) (fun _ _ _ h => h) (Or.inl ⟨by rfl, ?hy2x11⟩) hH1 ?_
                    case hy2x11 => ((intro w hSw); (try dsimp only at hSw); go_simp; try with_reducible rfl)
                    try simp only [Act.put, List.setIfInBounds_toArray, List.set_cons_zero, List.set_cons_succ]
                    refine wpAnyH_take (i := 12) (oi := ({ dst := some 110, op := Op.fieldAddr 26 (Operand.tmp 2) 6, type := 0, pos := "ref.go:173", after := #[{ on := 10, ground := Ground.guard }], guard := some (10, true) } : Oper)) (v := ?v2x12) rfl (by kernel_rfl) (by kernel_rfl) (by kernel_rfl) (fun _ _ _ h => h) (Or.inl ⟨by rfl, ?hy2x12⟩) hH1 ?_
                    case hy2x12 => ((intro w hSw); (try dsimp only at hSw); go_simp; try with_reducible rfl)
                    try simp only [Act.put, List.setIfInBounds_toArray, List.set_cons_zero, List.set_cons_succ]
                    refine wpAnyH_take (i := 13) (oi := ({ dst := some 111, op := Op.load 24 (Operand.tmp 110), type := 24, pos := "ref.go:173", after := #[{ on := 12, ground := Ground.data }, { on := 10, ground := Ground.guard }], guard := some (10, true) } : Oper)) (v := ?v2x13) rfl (by kernel_rfl) (by kernel_rfl) (by kernel_rfl) (fun _ _ _ h => h) (Or.inl ⟨by rfl, ?hy2x13⟩) hH1 ?_
                    case hy2x13 => ((intro w hSw); (try dsimp only at hSw); go_simp; try with_reducible rfl)
                    try simp only [Act.put, List.setIfInBounds_toArray, List.set_cons_zero, List.set_cons_succ]
                    refine wpAnyH_take (i := 14) (oi := ({ dst := some 112, op := Op.move (Operand.tmp 12), type := 3, pos := "ref.go:173", after := #[{ on := 10, ground := Ground.guard }], guard := some (10, true) } : Oper)) (v := ?v2x14) rfl (by kernel_rfl) (by kernel_rfl) (by kernel_rfl) (fun _ _ _ h => h) (Or.inl ⟨by rfl, ?hy2x14⟩) hH1 ?_
                    case hy2x14 => ((intro w hSw); (try dsimp only at hSw); go_simp; try with_reducible rfl)
                    try simp only [Act.put, List.setIfInBounds_toArray, List.set_cons_zero, List.set_cons_succ]
                    refine wpAnyH_take (i := 15) (oi := ({ dst := some 113, op := Op.indexAddr 24 (Operand.tmp 111) (Operand.tmp 112), type := 0, pos := "ref.go:173", after := #[{ on := 13, ground := Ground.data }, { on := 14, ground := Ground.data }, { on := 10, ground := Ground.guard }], guard := some (10, true) } : Oper)) (v := ?v2x15) rfl (by kernel_rfl) (by kernel_rfl) (by kernel_rfl) (fun _ _ _ h => h) (Or.inl ⟨by rfl, ?hy2x15⟩) hH1 ?_
                    case hy2x15 => ((intro w hSw); (try dsimp only at hSw); go_simp; try with_reducible rfl)
                    try simp only [Act.put, List.setIfInBounds_toArray, List.set_cons_zero, List.set_cons_succ]
                    refine wpAnyH_take (i := 16) (oi := ({ dst := some 114, op := Op.fieldAddr 38 (Operand.tmp 113) 2, type := 0, pos := "ref.go:173", after := #[{ on := 15, ground := Ground.data }, { on := 10, ground := Ground.guard }], guard := some (10, true) } : Oper)) (v := ?v2x16) rfl (by kernel_rfl) (by kernel_rfl) (by kernel_rfl) (fun _ _ _ h => h) (Or.inl ⟨by rfl, ?hy2x16⟩) hH1 ?_
                    case hy2x16 => ((intro w hSw); (try dsimp only at hSw); go_simp; try with_reducible rfl)
                    try simp only [Act.put, List.setIfInBounds_toArray, List.set_cons_zero, List.set_cons_succ]
                    refine wpAnyH_take (i := 17) (oi := ({ dst := some 115, op := Op.load 3 (Operand.tmp 114), type := 3, pos := "ref.go:173", after := #[{ on := 16, ground := Ground.data }, { on := 10, ground := Ground.guard }], guard := some (10, true) } : Oper)) (v := ?v2x17) rfl (by kernel_rfl) (by kernel_rfl) (by kernel_rfl) (fun _ _ _ h => h) (Or.inl ⟨by rfl, ?hy2x17⟩) hH1 ?_
                    case hy2x17 => ((intro w hSw); (try dsimp only at hSw); go_simp; try with_reducible rfl)
                    try simp only [Act.put, List.setIfInBounds_toArray, List.set_cons_zero, List.set_cons_succ]
                    refine wpAnyH_take (i := 19) (oi := ({ dst := some 117, op := Op.move (Operand.tmp 8), type := 9, pos := "ref.go:173", after := #[{ on := 10, ground := Ground.guard }], guard := some (10, true) } : Oper)) (v := ?v2x19) rfl (by kernel_rfl) (by kernel_rfl) (by kernel_rfl) (fun _ _ _ h => h) (Or.inl ⟨by rfl, ?hy2x19⟩) hH1 ?_
                    case hy2x19 => ((intro w hSw); (try dsimp only at hSw); go_simp; try with_reducible rfl)
                    try simp only [Act.put, List.setIfInBounds_toArray, List.set_cons_zero, List.set_cons_succ]
                    refine wpAnyH_ready (rs := [18]) (by kernel_rfl) (by simp) ?_
                    refine AllReadyH.cons (o := _) rfl (fun K hK => ?_) AllReadyH.nil
                    go_simp
                    go_at_call 32
                    refine (HX.out _ wz0 hH1.2.1 (by have := hH1.2.2.2.2.2.2.2.2.2.2.2.1; omega) _ TD2.out).mono ?_
                    rintro e wz1 ⟨rfl, hb1⟩
                    try go_wp2_with fail
                    have hF := FBox.below hH1.1 hb1 (FBox.lt hH1.1)
                    have hFA := FileAt.below hH1.2.1 hb1 (show B ≤ (wz0).heap.size by have := hH1.2.2.2.2.2.2.2.2.2.2.2.1; omega)
                    have hy1 := keepc hb1 (B := w.heap.size) hpw hH1.2.2.2.2.2.2.2.2.2.2.2.1 hH1.2.2.2.2.2.2.2.2.2.1
                    have hy2 := keepc hb1 (B := w.heap.size) hpw hH1.2.2.2.2.2.2.2.2.2.2.2.1 hH1.2.2.2.2.2.2.2.2.2.2.1
                    have hss := Nat.le_trans hH1.2.2.2.2.2.2.2.2.2.2.2.1 hb1.size
                    have hBE := Below.link hH1.2.2.2.2.2.2.2.2.2.2.2.2 hb1
                    obtain ⟨c0', c1', c2', c3', c4', c5', c6'⟩ := hF.cells
                    refine hK.out _ _ ⟨hF, hFA, c0', c1', c2', c3', c4', c5', c6', hy1, hy2, hss, hBE⟩ (fun hH2 => ?_)
                    clear hK K hH1 hF hFA hy1 hy2 hss hBE c0' c1' c2' c3' c4' c5' c6' hb1
                    try simp only [Act.put, List.setIfInBounds_toArray, List.set_cons_zero, List.set_cons_succ]
                    refine wpAnyH_take (i := 20) (oi := ({ dst := some 118, op := Op.binOp BinOp.eql 9 (Operand.tmp 116) (Operand.tmp 117) 9, type := 4, pos := "ref.go:173", after := #[{ on := 18, ground := Ground.data }, { on := 19, ground := Ground.data }, { on := 10, ground := Ground.guard }], guard := some (10, true) } : Oper)) (v := ?v2x20) rfl (by kernel_rfl) (by kernel_rfl) (by kernel_rfl) (fun _ _ _ h => h) (Or.inl ⟨by rfl, ?hy2x20⟩) hH2 ?_
                    case hy2x20 => ((intro w hSw); (try dsimp only at hSw); go_simp; try with_reducible rfl)
                    try simp only [Act.put, List.setIfInBounds_toArray, List.set_cons_zero, List.set_cons_succ]
                    refine wpAnyH_take (i := 21) (oi := ({ dst := some 119, op := Op.pick (Operand.tmp 108) (Operand.tmp 118) (Operand.const (Value.bool false)), type := 4, pos := "ref.go:173", after := #[{ on := 10, ground := Ground.data }, { on := 20, ground := Ground.data }], guard := none } : Oper)) (v := ?v2x21) rfl (by kernel_rfl) (by kernel_rfl) (by kernel_rfl) (fun _ _ _ h => h) (Or.inl ⟨by rfl, ?hy2x21⟩) hH2 ?_
                    case hy2x21 => ((intro w hSw); (try dsimp only at hSw); go_simp; try with_reducible rfl)
                    try simp only [Act.put, List.setIfInBounds_toArray, List.set_cons_zero, List.set_cons_succ]
                    refine wpAnyH_done (by kernel_rfl) ?_ _
                    have FLI := Lib.hid hH2.2.1
                    have BFI := Lib.hid hH2.1
                    have BEI := Lib.hid hH2.2.2.2.2.2.2.2.2.2.2.2.2
                    clear hH2 c0 c1 c2 c3 c4 c5 c6 y1 y2
                    go_wp2
                    go_roundg (gk - 1)
                    case measure => exact hgg
                    case rel => exact ⟨k + 1, by go_num, by omega, HNX.out.trans HF.out, FLI.out, BFI.out, BEI.out⟩
                  | true =>
                    have hs1 : ((textP f.pool d.nm).toList == (textP f.pool m.nm).toList) = true := (str_beq _ _).trans hn
                    have hs2 : ((textP f.pool d.ds).toList == (textP f.pool m.ds).toList) = true := (str_beq _ _).trans hn2
                    have HF := Lib.hid (show sameM f.pool d m = true by unfold sameM sameN sameD; rw [hn, hn2]; rfl)
                    have HRR := Lib.hid (show R = 15 by rw [HRL.out, HAL.out HF.out]; rfl)
                    clear hn hn2
                    go_wp2
                    refine wp_region_held_drew (S := (fun w' => FBox w.heap.size Ap cp Ai ci Af cf (some ⟨p0, o0, none⟩) cm f w' ∧ FileAt B w' (.agg #[.slice Ap f.pool.length cp, .int .i64 f.fl, .int .i64 f.this, .int .i64 f.super, .slice Ai f.ifs.length ci, .slice Af f.fds.length cf, .slice (some ⟨p0, o0, none⟩) f.mts.length cm]) f ∧ w'.cell? ⟨w.heap.size, 0, none⟩ = some (.slice Ap f.pool.length cp) ∧ w'.cell? ⟨w.heap.size, 1, none⟩ = some (.int .i64 f.fl) ∧ w'.cell? ⟨w.heap.size, 2, none⟩ = some (.int .i64 f.this) ∧ w'.cell? ⟨w.heap.size, 3, none⟩ = some (.int .i64 f.super) ∧ w'.cell? ⟨w.heap.size, 4, none⟩ = some (.slice Ai f.ifs.length ci) ∧ w'.cell? ⟨w.heap.size, 5, none⟩ = some (.slice Af f.fds.length cf) ∧ w'.cell? ⟨w.heap.size, 6, none⟩ = some (.slice (some ⟨p0, o0, none⟩) f.mts.length cm) ∧ w'.cell? ⟨p0, o0 + k * 7 + 1, none⟩ = some (.int .i64 d.nm) ∧ w'.cell? ⟨p0, o0 + k * 7 + 2, none⟩ = some (.int .i64 d.ds) ∧ w.heap.size ≤ w'.heap.size ∧ Below w.heap.size w w')) (by kernel_rfl) (⟨BF9.out.drew, FL9.out.drew, c0, c1, c2, c3, c4, c5, c6, y1, y2, hsz9, BE9.out.drew⟩) (fun hH => ?_)
                    refine wpAnyH_take (i := 0) (oi := ({ dst := some 98, op := Op.load 26 (Operand.tmp 2), type := 26, pos := "ref.go:173", after := #[], guard := none } : Oper)) (v := ?v3x0) rfl (by kernel_rfl) (by kernel_rfl) (by kernel_rfl) (fun _ _ _ h => h) (Or.inl ⟨by rfl, ?hy3x0⟩) hH ?_
                    case hy3x0 => ((intro w hSw); (try dsimp only at hSw); go_simp; try with_reducible rfl)
                    try simp only [Act.put, List.setIfInBounds_toArray, List.set_cons_zero, List.set_cons_succ]
                    refine wpAnyH_take (i := 1) (oi := ({ dst := some 99, op := Op.fieldAddr 26 (Operand.tmp 2) 6, type := 0, pos := "ref.go:173", after := #[], guard := none } : Oper)) (v := ?v3x1) rfl (by kernel_rfl) (by kernel_rfl) (by kernel_rfl) (fun _ _ _ h => h) (Or.inl ⟨by rfl, ?hy3x1⟩) hH ?_
                    case hy3x1 => ((intro w hSw); (try dsimp only at hSw); go_simp; try with_reducible rfl)
                    try simp only [Act.put, List.setIfInBounds_toArray, List.set_cons_zero, List.set_cons_succ]
                    refine wpAnyH_take (i := 2) (oi := ({ dst := some 100, op := Op.load 24 (Operand.tmp 99), type := 24, pos := "ref.go:173", after := #[{ on := 1, ground := Ground.data }], guard := none } : Oper)) (v := ?v3x2) rfl (by kernel_rfl) (by kernel_rfl) (by kernel_rfl) (fun _ _ _ h => h) (Or.inl ⟨by rfl, ?hy3x2⟩) hH ?_
                    case hy3x2 => ((intro w hSw); (try dsimp only at hSw); go_simp; try with_reducible rfl)
                    try simp only [Act.put, List.setIfInBounds_toArray, List.set_cons_zero, List.set_cons_succ]
                    refine wpAnyH_take (i := 3) (oi := ({ dst := some 101, op := Op.move (Operand.tmp 12), type := 3, pos := "ref.go:173", after := #[], guard := none } : Oper)) (v := ?v3x3) rfl (by kernel_rfl) (by kernel_rfl) (by kernel_rfl) (fun _ _ _ h => h) (Or.inl ⟨by rfl, ?hy3x3⟩) hH ?_
                    case hy3x3 => ((intro w hSw); (try dsimp only at hSw); go_simp; try with_reducible rfl)
                    try simp only [Act.put, List.setIfInBounds_toArray, List.set_cons_zero, List.set_cons_succ]
                    refine wpAnyH_take (i := 4) (oi := ({ dst := some 102, op := Op.indexAddr 24 (Operand.tmp 100) (Operand.tmp 101), type := 0, pos := "ref.go:173", after := #[{ on := 2, ground := Ground.data }, { on := 3, ground := Ground.data }], guard := none } : Oper)) (v := ?v3x4) rfl (by kernel_rfl) (by kernel_rfl) (by kernel_rfl) (fun _ _ _ h => h) (Or.inl ⟨by rfl, ?hy3x4⟩) hH ?_
                    case hy3x4 => ((intro w hSw); (try dsimp only at hSw); go_simp; try with_reducible rfl)
                    try simp only [Act.put, List.setIfInBounds_toArray, List.set_cons_zero, List.set_cons_succ]
                    refine wpAnyH_take (i := 5) (oi := ({ dst := some 103, op := Op.fieldAddr 38 (Operand.tmp 102) 1, type := 0, pos := "ref.go:173", after := #[{ on := 4, ground := Ground.data }], guard := none } : Oper)) (v := ?v3x5) rfl (by kernel_rfl) (by kernel_rfl) (by kernel_rfl) (fun _ _ _ h => h) (Or.inl ⟨by rfl, ?hy3x5⟩) hH ?_
                    case hy3x5 => ((intro w hSw); (try dsimp only at hSw); go_simp; try with_reducible rfl)
                    try simp only [Act.put, List.setIfInBounds_toArray, List.set_cons_zero, List.set_cons_succ]
                    refine wpAnyH_take (i := 6) (oi := ({ dst := some 104, op := Op.load 3 (Operand.tmp 103), type := 3, pos := "ref.go:173", after := #[{ on := 5, ground := Ground.data }], guard := none } : Oper)) (v := ?v3x6) rfl (by kernel_rfl) (by kernel_rfl) (by kernel_rfl) (fun _ _ _ h => h) (Or.inl ⟨by rfl, ?hy3x6⟩) hH ?_
                    case hy3x6 => ((intro w hSw); (try dsimp only at hSw); go_simp; try with_reducible rfl)
                    try simp only [Act.put, List.setIfInBounds_toArray, List.set_cons_zero, List.set_cons_succ]
                    refine wpAnyH_take (i := 8) (oi := ({ dst := some 106, op := Op.move (Operand.tmp 7), type := 9, pos := "ref.go:173", after := #[], guard := none } : Oper)) (v := ?v3x8) rfl (by kernel_rfl) (by kernel_rfl) (by kernel_rfl) (fun _ _ _ h => h) (Or.inl ⟨by rfl, ?hy3x8⟩) hH ?_
                    case hy3x8 => ((intro w hSw); (try dsimp only at hSw); go_simp; try with_reducible rfl)
                    try simp only [Act.put, List.setIfInBounds_toArray, List.set_cons_zero, List.set_cons_succ]
                    refine wpAnyH_ready (rs := [7]) (by kernel_rfl) (by simp) ?_
                    refine AllReadyH.cons (o := _) rfl (fun K hK => ?_) AllReadyH.nil
                    go_simp
                    go_at_call 32
                    refine (HX.out _ wr.drew hH.2.1 (by have := hH.2.2.2.2.2.2.2.2.2.2.2.1; omega) _ TD1.out).mono ?_
                    rintro e wz0 ⟨rfl, hb0⟩
                    try go_wp2_with fail
                    have hF := FBox.below hH.1 hb0 (FBox.lt hH.1)
                    have hFA := FileAt.below hH.2.1 hb0 (show B ≤ (wr.drew).heap.size by have := hH.2.2.2.2.2.2.2.2.2.2.2.1; omega)
                    have hy1 := keepc hb0 (B := w.heap.size) hpw hH.2.2.2.2.2.2.2.2.2.2.2.1 hH.2.2.2.2.2.2.2.2.2.1
                    have hy2 := keepc hb0 (B := w.heap.size) hpw hH.2.2.2.2.2.2.2.2.2.2.2.1 hH.2.2.2.2.2.2.2.2.2.2.1
                    have hss := Nat.le_trans hH.2.2.2.2.2.2.2.2.2.2.2.1 hb0.size
                    have hBE := Below.link hH.2.2.2.2.2.2.2.2.2.2.2.2 hb0
                    obtain ⟨c0', c1', c2', c3', c4', c5', c6'⟩ := hF.cells
                    refine hK.out _ _ ⟨hF, hFA, c0', c1', c2', c3', c4', c5', c6', hy1, hy2, hss, hBE⟩ (fun hH1 => ?_)
                    clear hK K hH hF hFA hy1 hy2 hss hBE c0' c1' c2' c3' c4' c5' c6' hb0
                    try simp only [Act.put, List.setIfInBounds_toArray, List.set_cons_zero, List.set_cons_succ]
                    refine wpAnyH_take (i := 9) (oi := ({ dst := some 107, op := Op.binOp BinOp.eql 9 (Operand.tmp 105) (Operand.tmp 106) 9, type := 4, pos := "ref.go:173", after := #[{ on := 7, ground := Ground.data }, { on := 8, ground := Ground.data }], guard := none } : Oper)) (v := ?v3x9) rfl (by kernel_rfl) (by kernel_rfl) (by kernel_rfl) (fun _ _ _ h => h) (Or.inl ⟨by rfl, ?hy3x9⟩) hH1 ?_
                    case hy3x9 => ((intro w hSw); (try dsimp only at hSw); go_simp; try with_reducible rfl)
                    try simp only [Act.put, List.setIfInBounds_toArray, List.set_cons_zero, List.set_cons_succ]
                    refine wpAnyH_take (i := 10) (oi := ({ dst := some 108, op := Op.move (Operand.tmp 107), type := 4, pos := "ref.go:173", after := #[{ on := 9, ground := Ground.data }, { on := 7, ground := Ground.chain }], guard := none } : Oper)) (v := ?v3x10) rfl (by kernel_rfl) (by kernel_rfl) (by kernel_rfl) (fun _ _ _ h => h) (Or.inl ⟨by rfl, ?hy3x10⟩) hH1 ?_
                    case hy3x10 => ((intro w hSw); (try dsimp only at hSw); go_simp; try with_reducible rfl)
                    try simp only [Act.put, List.setIfInBounds_toArray, List.set_cons_zero, List.set_cons_succ]
                    refine wpAnyH_take (i := 11) (oi := ({ dst := some 109, op := Op.load 26 (Operand.tmp 2), type := 26, pos := "ref.go:173", after := #[{ on := 10, ground := Ground.guard }], guard := some (10, true) } : Oper)) (v := ?v3x11) rfl (by kernel_rfl) (by kernel_rfl) (by kernel_rfl) (fun _ _ _ h => h) (Or.inl ⟨by rfl, ?hy3x11⟩) hH1 ?_
                    case hy3x11 => ((intro w hSw); (try dsimp only at hSw); go_simp; try with_reducible rfl)
                    try simp only [Act.put, List.setIfInBounds_toArray, List.set_cons_zero, List.set_cons_succ]
                    refine wpAnyH_take (i := 12) (oi := ({ dst := some 110, op := Op.fieldAddr 26 (Operand.tmp 2) 6, type := 0, pos := "ref.go:173", after := #[{ on := 10, ground := Ground.guard }], guard := some (10, true) } : Oper)) (v := ?v3x12) rfl (by kernel_rfl) (by kernel_rfl) (by kernel_rfl) (fun _ _ _ h => h) (Or.inl ⟨by rfl, ?hy3x12⟩) hH1 ?_
                    case hy3x12 => ((intro w hSw); (try dsimp only at hSw); go_simp; try with_reducible rfl)
                    try simp only [Act.put, List.setIfInBounds_toArray, List.set_cons_zero, List.set_cons_succ]
                    refine wpAnyH_take (i := 13) (oi := ({ dst := some 111, op := Op.load 24 (Operand.tmp 110), type := 24, pos := "ref.go:173", after := #[{ on := 12, ground := Ground.data }, { on := 10, ground := Ground.guard }], guard := some (10, true) } : Oper)) (v := ?v3x13) rfl (by kernel_rfl) (by kernel_rfl) (by kernel_rfl) (fun _ _ _ h => h) (Or.inl ⟨by rfl, ?hy3x13⟩) hH1 ?_
                    case hy3x13 => ((intro w hSw); (try dsimp only at hSw); go_simp; try with_reducible rfl)
                    try simp only [Act.put, List.setIfInBounds_toArray, List.set_cons_zero, List.set_cons_succ]
                    refine wpAnyH_take (i := 14) (oi := ({ dst := some 112, op := Op.move (Operand.tmp 12), type := 3, pos := "ref.go:173", after := #[{ on := 10, ground := Ground.guard }], guard := some (10, true) } : Oper)) (v := ?v3x14) rfl (by kernel_rfl) (by kernel_rfl) (by kernel_rfl) (fun _ _ _ h => h) (Or.inl ⟨by rfl, ?hy3x14⟩) hH1 ?_
                    case hy3x14 => ((intro w hSw); (try dsimp only at hSw); go_simp; try with_reducible rfl)
                    try simp only [Act.put, List.setIfInBounds_toArray, List.set_cons_zero, List.set_cons_succ]
                    refine wpAnyH_take (i := 15) (oi := ({ dst := some 113, op := Op.indexAddr 24 (Operand.tmp 111) (Operand.tmp 112), type := 0, pos := "ref.go:173", after := #[{ on := 13, ground := Ground.data }, { on := 14, ground := Ground.data }, { on := 10, ground := Ground.guard }], guard := some (10, true) } : Oper)) (v := ?v3x15) rfl (by kernel_rfl) (by kernel_rfl) (by kernel_rfl) (fun _ _ _ h => h) (Or.inl ⟨by rfl, ?hy3x15⟩) hH1 ?_
                    case hy3x15 => ((intro w hSw); (try dsimp only at hSw); go_simp; try with_reducible rfl)
                    try simp only [Act.put, List.setIfInBounds_toArray, List.set_cons_zero, List.set_cons_succ]
                    refine wpAnyH_take (i := 16) (oi := ({ dst := some 114, op := Op.fieldAddr 38 (Operand.tmp 113) 2, type := 0, pos := "ref.go:173", after := #[{ on := 15, ground := Ground.data }, { on := 10, ground := Ground.guard }], guard := some (10, true) } : Oper)) (v := ?v3x16) rfl (by kernel_rfl) (by kernel_rfl) (by kernel_rfl) (fun _ _ _ h => h) (Or.inl ⟨by rfl, ?hy3x16⟩) hH1 ?_
                    case hy3x16 => ((intro w hSw); (try dsimp only at hSw); go_simp; try with_reducible rfl)
                    try simp only [Act.put, List.setIfInBounds_toArray, List.set_cons_zero, List.set_cons_succ]
                    refine wpAnyH_take (i := 17) (oi := ({ dst := some 115, op := Op.load 3 (Operand.tmp 114), type := 3, pos := "ref.go:173", after := #[{ on := 16, ground := Ground.data }, { on := 10, ground := Ground.guard }], guard := some (10, true) } : Oper)) (v := ?v3x17) rfl (by kernel_rfl) (by kernel_rfl) (by kernel_rfl) (fun _ _ _ h => h) (Or.inl ⟨by rfl, ?hy3x17⟩) hH1 ?_
                    case hy3x17 => ((intro w hSw); (try dsimp only at hSw); go_simp; try with_reducible rfl)
                    try simp only [Act.put, List.setIfInBounds_toArray, List.set_cons_zero, List.set_cons_succ]
                    refine wpAnyH_take (i := 19) (oi := ({ dst := some 117, op := Op.move (Operand.tmp 8), type := 9, pos := "ref.go:173", after := #[{ on := 10, ground := Ground.guard }], guard := some (10, true) } : Oper)) (v := ?v3x19) rfl (by kernel_rfl) (by kernel_rfl) (by kernel_rfl) (fun _ _ _ h => h) (Or.inl ⟨by rfl, ?hy3x19⟩) hH1 ?_
                    case hy3x19 => ((intro w hSw); (try dsimp only at hSw); go_simp; try with_reducible rfl)
                    try simp only [Act.put, List.setIfInBounds_toArray, List.set_cons_zero, List.set_cons_succ]
                    refine wpAnyH_ready (rs := [18]) (by kernel_rfl) (by simp) ?_
                    refine AllReadyH.cons (o := _) rfl (fun K hK => ?_) AllReadyH.nil
                    go_simp
                    go_at_call 32
                    refine (HX.out _ wz0 hH1.2.1 (by have := hH1.2.2.2.2.2.2.2.2.2.2.2.1; omega) _ TD2.out).mono ?_
                    rintro e wz1 ⟨rfl, hb1⟩
                    try go_wp2_with fail
                    have hF := FBox.below hH1.1 hb1 (FBox.lt hH1.1)
                    have hFA := FileAt.below hH1.2.1 hb1 (show B ≤ (wz0).heap.size by have := hH1.2.2.2.2.2.2.2.2.2.2.2.1; omega)
                    have hy1 := keepc hb1 (B := w.heap.size) hpw hH1.2.2.2.2.2.2.2.2.2.2.2.1 hH1.2.2.2.2.2.2.2.2.2.1
                    have hy2 := keepc hb1 (B := w.heap.size) hpw hH1.2.2.2.2.2.2.2.2.2.2.2.1 hH1.2.2.2.2.2.2.2.2.2.2.1
                    have hss := Nat.le_trans hH1.2.2.2.2.2.2.2.2.2.2.2.1 hb1.size
                    have hBE := Below.link hH1.2.2.2.2.2.2.2.2.2.2.2.2 hb1
                    obtain ⟨c0', c1', c2', c3', c4', c5', c6'⟩ := hF.cells
                    refine hK.out _ _ ⟨hF, hFA, c0', c1', c2', c3', c4', c5', c6', hy1, hy2, hss, hBE⟩ (fun hH2 => ?_)
                    clear hK K hH1 hF hFA hy1 hy2 hss hBE c0' c1' c2' c3' c4' c5' c6' hb1
                    try simp only [Act.put, List.setIfInBounds_toArray, List.set_cons_zero, List.set_cons_succ]
                    refine wpAnyH_take (i := 20) (oi := ({ dst := some 118, op := Op.binOp BinOp.eql 9 (Operand.tmp 116) (Operand.tmp 117) 9, type := 4, pos := "ref.go:173", after := #[{ on := 18, ground := Ground.data }, { on := 19, ground := Ground.data }, { on := 10, ground := Ground.guard }], guard := some (10, true) } : Oper)) (v := ?v3x20) rfl (by kernel_rfl) (by kernel_rfl) (by kernel_rfl) (fun _ _ _ h => h) (Or.inl ⟨by rfl, ?hy3x20⟩) hH2 ?_
                    case hy3x20 => ((intro w hSw); (try dsimp only at hSw); go_simp; try with_reducible rfl)
                    try simp only [Act.put, List.setIfInBounds_toArray, List.set_cons_zero, List.set_cons_succ]
                    refine wpAnyH_take (i := 21) (oi := ({ dst := some 119, op := Op.pick (Operand.tmp 108) (Operand.tmp 118) (Operand.const (Value.bool false)), type := 4, pos := "ref.go:173", after := #[{ on := 10, ground := Ground.data }, { on := 20, ground := Ground.data }], guard := none } : Oper)) (v := ?v3x21) rfl (by kernel_rfl) (by kernel_rfl) (by kernel_rfl) (fun _ _ _ h => h) (Or.inl ⟨by rfl, ?hy3x21⟩) hH2 ?_
                    case hy3x21 => ((intro w hSw); (try dsimp only at hSw); go_simp; try with_reducible rfl)
                    try simp only [Act.put, List.setIfInBounds_toArray, List.set_cons_zero, List.set_cons_succ]
                    refine wpAnyH_done (by kernel_rfl) ?_ _
                    have FLI := Lib.hid hH2.2.1
                    have BFI := Lib.hid hH2.1
                    have BEI := Lib.hid hH2.2.2.2.2.2.2.2.2.2.2.2.2
                    clear hH2 c0 c1 c2 c3 c4 c5 c6 y1 y2
                    go_wp2
                    go_ret
                    exact ⟨ret_i HRR.out.symm, BEI.out⟩
              · have hki : k = i := by omega
                have HRR := Lib.hid (show R = 0 by rw [HRL.out, ← hki, HANY.out]; rfl)
                clear hki
                go_wp2
                go_ret
                exact ⟨ret_i HRR.out.symm, BE9.out⟩
      · by_cases hc1 : textP f.pool m.nm = clinitN
        · have HSP := Lib.hid (show specE f.pool m = 10 by unfold specE; rw [if_neg hi1, if_pos hc1, if_neg (fun h => absurd h.1 (by rw [HFLZ.out]; decide))])
          have e1 : ((textP f.pool m.nm).toList == [60, 105, 110, 105, 116, 62]) = false := beq_lit _ initN _ (toList_data initN) _ (by simpa using hi1)
          have e2 : ((textP f.pool m.nm).toList == [60, 99, 108, 105, 110, 105, 116, 62]) = true := beq_lit _ clinitN _ (toList_data clinitN) _ (by simpa using hc1)
          clear hi1 hc1
          have HRR := Lib.hid (show R = 10 by have h := HR.out; rw [HSP.out] at h; simpa using h)
          go_wp2
          go_ret
          exact ⟨ret_i HRR.out.symm, BE5.out⟩
        · have HSP := Lib.hid (show specE f.pool m = 0 by unfold specE; rw [if_neg hi1, if_neg hc1])
          have e1 : ((textP f.pool m.nm).toList == [60, 105, 110, 105, 116, 62]) = false := beq_lit _ initN _ (toList_data initN) _ (by simpa using hi1)
          have e2 : ((textP f.pool m.nm).toList == [60, 99, 108, 105, 110, 105, 116, 62]) = false := beq_lit _ clinitN _ (toList_data clinitN) _ (by simpa using hc1)
          clear hi1 hc1
          have HRC := Lib.hid (show R = if bodyE f.pool m = 0 then (if (f.mts.take i).any (fun d => sameM f.pool d m) = true then 15 else 0) else bodyE f.pool m by have h := HR.out; rw [HSP.out] at h; simpa using h)
          have HCB := Lib.hid (refCoded_any f _ _ FL5.out (Nat.le_trans hB BE5.out.size) m A2 c2' (show HRow B _ (.slice A2 m.hs.length c2') m.hs from Row.keep HRW.out fun p hp => (BE5.out.cell (p := p) (by omega)).trans (BEA.out.cell (p := p) (by omega)).symm) HNE.out)
          generalize bodyE f.pool m = E2 at *
          go_wp2_with fail
          refine (HCB.out).mono ?_
          rintro e w6 ⟨rfl, hb⟩
          have BE6 := Lib.hid (Below.link BE5.out hb)
          have FL6 := Lib.hid (FL5.out.below hb (Nat.le_trans hB BE5.out.size))
          have BF6 := Lib.hid (BF5.out.below hb BF5.out.lt)
          have ltBF6 := BF6.out.lt
          have BM6 := Lib.hid (BM5.out.below hb BM5.out.lt)
          have ltBM6 := BM6.out.lt
          clear hb
          clear c0 c1 c2 c3 c4 c5 c6 m0 m1 m2 m3 m4 m5 m6
          obtain ⟨c0, c1, c2, c3, c4, c5, c6⟩ := BF6.out.cells
          obtain ⟨m0, m1, m2, m3, m4, m5, m6⟩ := BM6.out.cells
          rcases (Classical.em (E2 = 0)).symm with hE2 | hE2
          · have HRR := Lib.hid (show R = E2 by rw [HRC.out, if_neg hE2])
            have ge2 : (E2 == 0) = false := by simpa using hE2
            have ge2' : (E2 != 0) = true := by simpa using hE2
            clear hE2
            go_wp2
            go_ret
            exact ⟨ret_i HRR.out.symm, BE6.out⟩
          · subst hE2
            have HRL := Lib.hid (show R = (if (f.mts.take i).any (fun d => sameM f.pool d m) = true then 15 else 0) by rw [HRC.out, if_pos rfl])
            go_wp2
            go_loopg [12] i (fun g iv wx => ∃ k : Nat, iv = .int .i64 k ∧ k + g = i ∧ (f.mts.take k).any (fun d => sameM f.pool d m) = false ∧ FileAt B wx (.agg #[.slice Ap f.pool.length cp, .int .i64 f.fl, .int .i64 f.this, .int .i64 f.super, .slice Ai f.ifs.length ci, .slice Af f.fds.length cf, .slice (some ⟨p0, o0, none⟩) f.mts.length cm]) f ∧ FBox w.heap.size Ap cp Ai ci Af cf (some ⟨p0, o0, none⟩) cm f wx ∧ Below w.heap.size w wx)
            case atStart => exact ⟨0, rfl, by omega, by simp, FL6.out, BF6.out, BE6.out⟩
            case round =>
              obtain ⟨k, rfl, hkg, hany, hfl, hbf, hbe⟩ := hrel
              have HANY := Lib.hid hany
              have FL9 := Lib.hid hfl
              have BF9 := Lib.hid hbf
              have BE9 := Lib.hid hbe
              have ltBF9 := hbf.lt
              clear hany hfl hbf hbe c0 c1 c2 c3 c4 c5 c6 m0 m1 m2 m3 m4 m5 m6
              obtain ⟨c0, c1, c2, c3, c4, c5, c6⟩ := BF9.out.cells
              by_cases hlt : k < i
              · have hgg : gk - 1 < gk := by omega
                obtain ⟨d, hd⟩ : ∃ d, f.mts[k]? = some d := ⟨_, List.getElem?_eq_getElem (by omega)⟩
                have TD1 := Lib.hid (HP.out k d hlt hd).1
                have TD2 := Lib.hid (HP.out k d hlt hd).2
                have HNX := Lib.hid (any_next (g := fun d => sameM f.pool d m) hd HANY.out)
                have HAL := Lib.hid (fun h => any_later (g := fun d => sameM f.pool d m) hd hlt h)
                have hI3 := HI.out.keep (w' := wr) (fun p hp => BE9.out.cell (p := p) (by omega))
                obtain ⟨p1, o1, A3, c3', e1, hb1, hrow1, -, y1, y2, -, -, -, -⟩ := hI3.mts.at_ hd
                injection e1 with e1
                injection e1 with e2 e3 e4
                subst e2 e3
                have hwk2 : IntKind.i64.wrap (k : Int) = k := IntWalk.i64_in _ (by omega)
                have hlk : (k : Int) < f.mts.length := by omega
                have hpw : p0 < w.heap.size := by omega
                have hsz9 : w.heap.size ≤ wr.heap.size := by omega
                clear hd hI3 hrow1 e4
                cases hn : decide (textP f.pool d.nm = textP f.pool m.nm) with
                | false =>
                  have hs1 : ((textP f.pool d.nm).toList == (textP f.pool m.nm).toList) = false := (str_beq _ _).trans hn
                  have HF := Lib.hid (show sameM f.pool d m = false by unfold sameM sameN; rw [hn]; rfl)
                  clear hn
                  go_wp2
                  refine wp_region_held_drew (S := (fun w' => FBox w.heap.size Ap cp Ai ci Af cf (some ⟨p0, o0, none⟩) cm f w' ∧ FileAt B w' (.agg #[.slice Ap f.pool.length cp, .int .i64 f.fl, .int .i64 f.this, .int .i64 f.super, .slice Ai f.ifs.length ci, .slice Af f.fds.length cf, .slice (some ⟨p0, o0, none⟩) f.mts.length cm]) f ∧ w'.cell? ⟨w.heap.size, 0, none⟩ = some (.slice Ap f.pool.length cp) ∧ w'.cell? ⟨w.heap.size, 1, none⟩ = some (.int .i64 f.fl) ∧ w'.cell? ⟨w.heap.size, 2, none⟩ = some (.int .i64 f.this) ∧ w'.cell? ⟨w.heap.size, 3, none⟩ = some (.int .i64 f.super) ∧ w'.cell? ⟨w.heap.size, 4, none⟩ = some (.slice Ai f.ifs.length ci) ∧ w'.cell? ⟨w.heap.size, 5, none⟩ = some (.slice Af f.fds.length cf) ∧ w'.cell? ⟨w.heap.size, 6, none⟩ = some (.slice (some ⟨p0, o0, none⟩) f.mts.length cm) ∧ w'.cell? ⟨p0, o0 + k * 7 + 1, none⟩ = some (.int .i64 d.nm) ∧ w'.cell? ⟨p0, o0 + k * 7 + 2, none⟩ = some (.int .i64 d.ds) ∧ w.heap.size ≤ w'.heap.size ∧ Below w.heap.size w w')) (by kernel_rfl) (⟨BF9.out.drew, FL9.out.drew, c0, c1, c2, c3, c4, c5, c6, y1, y2, hsz9, BE9.out.drew⟩) (fun hH => ?_)
                  refine wpAnyH_take (i := 0) (oi := ({ dst := some 98, op := Op.load 26 (Operand.tmp 2), type := 26, pos := "ref.go:173", after := #[], guard := none } : Oper)) (v := ?v4x0) rfl (by kernel_rfl) (by kernel_rfl) (by kernel_rfl) (fun _ _ _ h => h) (Or.inl ⟨by rfl, ?hy4x0⟩) hH ?_
                  case hy4x0 => ((intro w hSw); (try dsimp only at hSw); go_simp; try with_reducible rfl)
                  try simp only [Act.put, List.setIfInBounds_toArray, List.set_cons_zero, List.set_cons_succ]
                  refine wpAnyH_take (i := 1) (oi := ({ dst := some 99, op := Op.fieldAddr 26 (Operand.tmp 2) 6, type := 0, pos := "ref.go:173", after := #[], guard := none } : Oper)) (v := ?v4x1) rfl (by kernel_rfl) (by kernel_rfl) (by kernel_rfl) (fun _ _ _ h => h) (Or.inl ⟨by rfl, ?hy4x1⟩) hH ?_
                  case hy4x1 => ((intro w hSw); (try dsimp only at hSw); go_simp; try with_reducible rfl)
                  try simp only [Act.put, List.setIfInBounds_toArray, List.set_cons_zero, List.set_cons_succ]
                  refine wpAnyH_take (i := 2) (oi := ({ dst := some 100, op := Op.load 24 (Operand.tmp 99), type := 24, pos := "ref.go:173", after := #[{ on := 1, ground := Ground.data }], guard := none } : Oper)) (v := ?v4x2) rfl (by kernel_rfl) (by kernel_rfl) (by kernel_rfl) (fun _ _ _ h => h) (Or.inl ⟨by rfl, ?hy4x2⟩) hH ?_
                  case hy4x2 => ((intro w hSw); (try dsimp only at hSw); go_simp; try with_reducible rfl)
                  try simp only [Act.put, List.setIfInBounds_toArray, List.set_cons_zero, List.set_cons_succ]
                  refine wpAnyH_take (i := 3) (oi := ({ dst := some 101, op := Op.move (Operand.tmp 12), type := 3, pos := "ref.go:173", after := #[], guard := none } : Oper)) (v := ?v4x3) rfl (by kernel_rfl) (by kernel_rfl) (by kernel_rfl) (fun _ _ _ h => h) (Or.inl ⟨by rfl, ?hy4x3⟩) hH ?_
                  case hy4x3 => ((intro w hSw); (try dsimp only at hSw); go_simp; try with_reducible rfl)
                  try simp only [Act.put, List.setIfInBounds_toArray, List.set_cons_zero, List.set_cons_succ]
                  refine wpAnyH_take (i := 4) (oi := ({ dst := some 102, op := Op.indexAddr 24 (Operand.tmp 100) (Operand.tmp 101), type := 0, pos := "ref.go:173", after := #[{ on := 2, ground := Ground.data }, { on := 3, ground := Ground.data }], guard := none } : Oper)) (v := ?v4x4) rfl (by kernel_rfl) (by kernel_rfl) (by kernel_rfl) (fun _ _ _ h => h) (Or.inl ⟨by rfl, ?hy4x4⟩) hH ?_
                  case hy4x4 => ((intro w hSw); (try dsimp only at hSw); go_simp; try with_reducible rfl)
                  try simp only [Act.put, List.setIfInBounds_toArray, List.set_cons_zero, List.set_cons_succ]
                  refine wpAnyH_take (i := 5) (oi := ({ dst := some 103, op := Op.fieldAddr 38 (Operand.tmp 102) 1, type := 0, pos := "ref.go:173", after := #[{ on := 4, ground := Ground.data }], guard := none } : Oper)) (v := ?v4x5) rfl (by kernel_rfl) (by kernel_rfl) (by kernel_rfl) (fun _ _ _ h => h) (Or.inl ⟨by rfl, ?hy4x5⟩) hH ?_
                  case hy4x5 => ((intro w hSw); (try dsimp only at hSw); go_simp; try with_reducible rfl)
                  try simp only [Act.put, List.setIfInBounds_toArray, List.set_cons_zero, List.set_cons_succ]
                  refine wpAnyH_take (i := 6) (oi := ({ dst := some 104, op := Op.load 3 (Operand.tmp 103), type := 3, pos := "ref.go:173", after := #[{ on := 5, ground := Ground.data }], guard := none } : Oper)) (v := ?v4x6) rfl (by kernel_rfl) (by kernel_rfl) (by kernel_rfl) (fun _ _ _ h => h) (Or.inl ⟨by rfl, ?hy4x6⟩) hH ?_
                  case hy4x6 => ((intro w hSw); (try dsimp only at hSw); go_simp; try with_reducible rfl)
                  try simp only [Act.put, List.setIfInBounds_toArray, List.set_cons_zero, List.set_cons_succ]
                  refine wpAnyH_take (i := 8) (oi := ({ dst := some 106, op := Op.move (Operand.tmp 7), type := 9, pos := "ref.go:173", after := #[], guard := none } : Oper)) (v := ?v4x8) rfl (by kernel_rfl) (by kernel_rfl) (by kernel_rfl) (fun _ _ _ h => h) (Or.inl ⟨by rfl, ?hy4x8⟩) hH ?_
                  case hy4x8 => ((intro w hSw); (try dsimp only at hSw); go_simp; try with_reducible rfl)
                  try simp only [Act.put, List.setIfInBounds_toArray, List.set_cons_zero, List.set_cons_succ]
                  refine wpAnyH_ready (rs := [7]) (by kernel_rfl) (by simp) ?_
                  refine AllReadyH.cons (o := _) rfl (fun K hK => ?_) AllReadyH.nil
                  go_simp
                  go_at_call 32
                  refine (HX.out _ wr.drew hH.2.1 (by have := hH.2.2.2.2.2.2.2.2.2.2.2.1; omega) _ TD1.out).mono ?_
                  rintro e wz0 ⟨rfl, hb0⟩
                  try go_wp2_with fail
                  have hF := FBox.below hH.1 hb0 (FBox.lt hH.1)
                  have hFA := FileAt.below hH.2.1 hb0 (show B ≤ (wr.drew).heap.size by have := hH.2.2.2.2.2.2.2.2.2.2.2.1; omega)
                  have hy1 := keepc hb0 (B := w.heap.size) hpw hH.2.2.2.2.2.2.2.2.2.2.2.1 hH.2.2.2.2.2.2.2.2.2.1
                  have hy2 := keepc hb0 (B := w.heap.size) hpw hH.2.2.2.2.2.2.2.2.2.2.2.1 hH.2.2.2.2.2.2.2.2.2.2.1
                  have hss := Nat.le_trans hH.2.2.2.2.2.2.2.2.2.2.2.1 hb0.size
                  have hBE := Below.link hH.2.2.2.2.2.2.2.2.2.2.2.2 hb0
                  obtain ⟨c0', c1', c2', c3', c4', c5', c6'⟩ := hF.cells
                  refine hK.out _ _ ⟨hF, hFA, c0', c1', c2', c3', c4', c5', c6', hy1, hy2, hss, hBE⟩ (fun hH1 => ?_)
                  clear hK K hH hF hFA hy1 hy2 hss hBE c0' c1' c2' c3' c4' c5' c6' hb0
                  try simp only [Act.put, List.setIfInBounds_toArray, List.set_cons_zero, List.set_cons_succ]
                  refine wpAnyH_take (i := 9) (oi := ({ dst := some 107, op := Op.binOp BinOp.eql 9 (Operand.tmp 105) (Operand.tmp 106) 9, type := 4, pos := "ref.go:173", after := #[{ on := 7, ground := Ground.data }, { on := 8, ground := Ground.data }], guard := none } : Oper)) (v := ?v4x9) rfl (by kernel_rfl) (by kernel_rfl) (by kernel_rfl) (fun _ _ _ h => h) (Or.inl ⟨by rfl, ?hy4x9⟩) hH1 ?_
                  case hy4x9 => ((intro w hSw); (try dsimp only at hSw); go_simp; try with_reducible rfl)
                  try simp only [Act.put, List.setIfInBounds_toArray, List.set_cons_zero, List.set_cons_succ]
                  refine wpAnyH_take (i := 10) (oi := ({ dst := some 108, op := Op.move (Operand.tmp 107), type := 4, pos := "ref.go:173", after := #[{ on := 9, ground := Ground.data }, { on := 7, ground := Ground.chain }], guard := none } : Oper)) (v := ?v4x10) rfl (by kernel_rfl) (by kernel_rfl) (by kernel_rfl) (fun _ _ _ h => h) (Or.inl ⟨by rfl, ?hy4x10⟩) hH1 ?_
                  case hy4x10 => ((intro w hSw); (try dsimp only at hSw); go_simp; try with_reducible rfl)
                  try simp only [Act.put, List.setIfInBounds_toArray, List.set_cons_zero, List.set_cons_succ]
                  refine wpAnyH_take (i := 11) (oi := ({ dst := some 109, op := Op.load 26 (Operand.tmp 2), type := 26, pos := "ref.go:173", after := #[{ on := 10, ground := Ground.guard }], guard := some (10, true) } : Oper)) (v := undef) rfl (by kernel_rfl) (by kernel_rfl) (by kernel_rfl) (fun _ _ _ h => h) (Or.inr ⟨by rfl, rfl⟩) hH1 ?_
                  try simp only [Act.put, List.setIfInBounds_toArray, List.set_cons_zero, List.set_cons_succ]
                  refine wpAnyH_take (i := 12) (oi := ({ dst := some 110, op := Op.fieldAddr 26 (Operand.tmp 2) 6, type := 0, pos := "ref.go:173", after := #[{ on := 10, ground := Ground.guard }], guard := some (10, true) } : Oper)) (v := undef) rfl (by kernel_rfl) (by kernel_rfl) (by kernel_rfl) (fun _ _ _ h => h) (Or.inr ⟨by rfl, rfl⟩) hH1 ?_
                  try simp only [Act.put, List.setIfInBounds_toArray, List.set_cons_zero, List.set_cons_succ]
                  refine wpAnyH_take (i := 13) (oi := ({ dst := some 111, op := Op.load 24 (Operand.tmp 110), type := 24, pos := "ref.go:173", after := #[{ on := 12, ground := Ground.data }, { on := 10, ground := Ground.guard }], guard := some (10, true) } : Oper)) (v := undef) rfl (by kernel_rfl) (by kernel_rfl) (by kernel_rfl) (fun _ _ _ h => h) (Or.inr ⟨by rfl, rfl⟩) hH1 ?_
                  try simp only [Act.put, List.setIfInBounds_toArray, List.set_cons_zero, List.set_cons_succ]
                  refine wpAnyH_take (i := 14) (oi := ({ dst := some 112, op := Op.move (Operand.tmp 12), type := 3, pos := "ref.go:173", after := #[{ on := 10, ground := Ground.guard }], guard := some (10, true) } : Oper)) (v := undef) rfl (by kernel_rfl) (by kernel_rfl) (by kernel_rfl) (fun _ _ _ h => h) (Or.inr ⟨by rfl, rfl⟩) hH1 ?_
                  try simp only [Act.put, List.setIfInBounds_toArray, List.set_cons_zero, List.set_cons_succ]
                  refine wpAnyH_take (i := 15) (oi := ({ dst := some 113, op := Op.indexAddr 24 (Operand.tmp 111) (Operand.tmp 112), type := 0, pos := "ref.go:173", after := #[{ on := 13, ground := Ground.data }, { on := 14, ground := Ground.data }, { on := 10, ground := Ground.guard }], guard := some (10, true) } : Oper)) (v := undef) rfl (by kernel_rfl) (by kernel_rfl) (by kernel_rfl) (fun _ _ _ h => h) (Or.inr ⟨by rfl, rfl⟩) hH1 ?_
                  try simp only [Act.put, List.setIfInBounds_toArray, List.set_cons_zero, List.set_cons_succ]
                  refine wpAnyH_take (i := 16) (oi := ({ dst := some 114, op := Op.fieldAddr 38 (Operand.tmp 113) 2, type := 0, pos := "ref.go:173", after := #[{ on := 15, ground := Ground.data }, { on := 10, ground := Ground.guard }], guard := some (10, true) } : Oper)) (v := undef) rfl (by kernel_rfl) (by kernel_rfl) (by kernel_rfl) (fun _ _ _ h => h) (Or.inr ⟨by rfl, rfl⟩) hH1 ?_
                  try simp only [Act.put, List.setIfInBounds_toArray, List.set_cons_zero, List.set_cons_succ]
                  refine wpAnyH_take (i := 17) (oi := ({ dst := some 115, op := Op.load 3 (Operand.tmp 114), type := 3, pos := "ref.go:173", after := #[{ on := 16, ground := Ground.data }, { on := 10, ground := Ground.guard }], guard := some (10, true) } : Oper)) (v := undef) rfl (by kernel_rfl) (by kernel_rfl) (by kernel_rfl) (fun _ _ _ h => h) (Or.inr ⟨by rfl, rfl⟩) hH1 ?_
                  try simp only [Act.put, List.setIfInBounds_toArray, List.set_cons_zero, List.set_cons_succ]
                  refine wpAnyH_take (i := 18) (oi := ({ dst := some 116, op := Op.call { callee := Callee.value (Operand.func 32), args := #[Operand.tmp 109, Operand.tmp 115], argTypes := #[26, 3] }, type := 9, pos := "ref.go:173", after := #[{ on := 11, ground := Ground.data }, { on := 17, ground := Ground.data }, { on := 10, ground := Ground.chain }, { on := 10, ground := Ground.guard }], guard := some (10, true) } : Oper)) (v := undef) rfl (by kernel_rfl) (by kernel_rfl) (by kernel_rfl) (fun _ _ _ h => h) (Or.inr ⟨by rfl, rfl⟩) hH1 ?_
                  try simp only [Act.put, List.setIfInBounds_toArray, List.set_cons_zero, List.set_cons_succ]
                  refine wpAnyH_take (i := 19) (oi := ({ dst := some 117, op := Op.move (Operand.tmp 8), type := 9, pos := "ref.go:173", after := #[{ on := 10, ground := Ground.guard }], guard := some (10, true) } : Oper)) (v := undef) rfl (by kernel_rfl) (by kernel_rfl) (by kernel_rfl) (fun _ _ _ h => h) (Or.inr ⟨by rfl, rfl⟩) hH1 ?_
                  try simp only [Act.put, List.setIfInBounds_toArray, List.set_cons_zero, List.set_cons_succ]
                  refine wpAnyH_take (i := 20) (oi := ({ dst := some 118, op := Op.binOp BinOp.eql 9 (Operand.tmp 116) (Operand.tmp 117) 9, type := 4, pos := "ref.go:173", after := #[{ on := 18, ground := Ground.data }, { on := 19, ground := Ground.data }, { on := 10, ground := Ground.guard }], guard := some (10, true) } : Oper)) (v := undef) rfl (by kernel_rfl) (by kernel_rfl) (by kernel_rfl) (fun _ _ _ h => h) (Or.inr ⟨by rfl, rfl⟩) hH1 ?_
                  try simp only [Act.put, List.setIfInBounds_toArray, List.set_cons_zero, List.set_cons_succ]
                  refine wpAnyH_take (i := 21) (oi := ({ dst := some 119, op := Op.pick (Operand.tmp 108) (Operand.tmp 118) (Operand.const (Value.bool false)), type := 4, pos := "ref.go:173", after := #[{ on := 10, ground := Ground.data }, { on := 20, ground := Ground.data }], guard := none } : Oper)) (v := ?v4x21) rfl (by kernel_rfl) (by kernel_rfl) (by kernel_rfl) (fun _ _ _ h => h) (Or.inl ⟨by rfl, ?hy4x21⟩) hH1 ?_
                  case hy4x21 => ((intro w hSw); (try dsimp only at hSw); go_simp; try with_reducible rfl)
                  try simp only [Act.put, List.setIfInBounds_toArray, List.set_cons_zero, List.set_cons_succ]
                  refine wpAnyH_done (by kernel_rfl) ?_ _
                  have FLI := Lib.hid hH1.2.1
                  have BFI := Lib.hid hH1.1
                  have BEI := Lib.hid hH1.2.2.2.2.2.2.2.2.2.2.2.2
                  clear hH1 c0 c1 c2 c3 c4 c5 c6 y1 y2
                  go_wp2
                  go_roundg (gk - 1)
                  case measure => exact hgg
                  case rel => exact ⟨k + 1, by go_num, by omega, HNX.out.trans HF.out, FLI.out, BFI.out, BEI.out⟩
                | true =>
                  cases hn2 : decide (textP f.pool d.ds = textP f.pool m.ds) with
                  | false =>
                    have hs1 : ((textP f.pool d.nm).toList == (textP f.pool m.nm).toList) = true := (str_beq _ _).trans hn
                    have hs2 : ((textP f.pool d.ds).toList == (textP f.pool m.ds).toList) = false := (str_beq _ _).trans hn2
                    have HF := Lib.hid (show sameM f.pool d m = false by unfold sameM sameN sameD; rw [hn, hn2]; rfl)
                    clear hn hn2
                    go_wp2
                    refine wp_region_held_drew (S := (fun w' => FBox w.heap.size Ap cp Ai ci Af cf (some ⟨p0, o0, none⟩) cm f w' ∧ FileAt B w' (.agg #[.slice Ap f.pool.length cp, .int .i64 f.fl, .int .i64 f.this, .int .i64 f.super, .slice Ai f.ifs.length ci, .slice Af f.fds.length cf, .slice (some ⟨p0, o0, none⟩) f.mts.length cm]) f ∧ w'.cell? ⟨w.heap.size, 0, none⟩ = some (.slice Ap f.pool.length cp) ∧ w'.cell? ⟨w.heap.size, 1, none⟩ = some (.int .i64 f.fl) ∧ w'.cell? ⟨w.heap.size, 2, none⟩ = some (.int .i64 f.this) ∧ w'.cell? ⟨w.heap.size, 3, none⟩ = some (.int .i64 f.super) ∧ w'.cell? ⟨w.heap.size, 4, none⟩ = some (.slice Ai f.ifs.length ci) ∧ w'.cell? ⟨w.heap.size, 5, none⟩ = some (.slice Af f.fds.length cf) ∧ w'.cell? ⟨w.heap.size, 6, none⟩ = some (.slice (some ⟨p0, o0, none⟩) f.mts.length cm) ∧ w'.cell? ⟨p0, o0 + k * 7 + 1, none⟩ = some (.int .i64 d.nm) ∧ w'.cell? ⟨p0, o0 + k * 7 + 2, none⟩ = some (.int .i64 d.ds) ∧ w.heap.size ≤ w'.heap.size ∧ Below w.heap.size w w')) (by kernel_rfl) (⟨BF9.out.drew, FL9.out.drew, c0, c1, c2, c3, c4, c5, c6, y1, y2, hsz9, BE9.out.drew⟩) (fun hH => ?_)
                    refine wpAnyH_take (i := 0) (oi := ({ dst := some 98, op := Op.load 26 (Operand.tmp 2), type := 26, pos := "ref.go:173", after := #[], guard := none } : Oper)) (v := ?v5x0) rfl (by kernel_rfl) (by kernel_rfl) (by kernel_rfl) (fun _ _ _ h => h) (Or.inl ⟨by rfl, ?hy5x0⟩) hH ?_
                    case hy5x0 => ((intro w hSw); (try dsimp only at hSw); go_simp; try with_reducible rfl)
                    try simp only [Act.put, List.setIfInBounds_toArray, List.set_cons_zero, List.set_cons_succ]
                    refine wpAnyH_take (i := 1) (oi := ({ dst := some 99, op := Op.fieldAddr 26 (Operand.tmp 2) 6, type := 0, pos := "ref.go:173", after := #[], guard := none } : Oper)) (v := ?v5x1) rfl (by kernel_rfl) (by kernel_rfl) (by kernel_rfl) (fun _ _ _ h => h) (Or.inl ⟨by rfl, ?hy5x1⟩) hH ?_
                    case hy5x1 => ((intro w hSw); (try dsimp only at hSw); go_simp; try with_reducible rfl)
                    try simp only [Act.put, List.setIfInBounds_toArray, List.set_cons_zero, List.set_cons_succ]
                    refine wpAnyH_take (i := 2) (oi := ({ dst := some 100, op := Op.load 24 (Operand.tmp 99), type := 24, pos := "ref.go:173", after := #[{ on := 1, ground := Ground.data }], guard := none } : Oper)) (v := ?v5x2) rfl (by kernel_rfl) (by kernel_rfl) (by kernel_rfl) (fun _ _ _ h => h) (Or.inl ⟨by rfl, ?hy5x2⟩) hH ?_
                    case hy5x2 => ((intro w hSw); (try dsimp only at hSw); go_simp; try with_reducible rfl)
                    try simp only [Act.put, List.setIfInBounds_toArray, List.set_cons_zero, List.set_cons_succ]
                    refine wpAnyH_take (i := 3) (oi := ({ dst := some 101, op := Op.move (Operand.tmp 12), type := 3, pos := "ref.go:173", after := #[], guard := none } : Oper)) (v := ?v5x3) rfl (by kernel_rfl) (by kernel_rfl) (by kernel_rfl) (fun _ _ _ h => h) (Or.inl ⟨by rfl, ?hy5x3⟩) hH ?_
                    case hy5x3 => ((intro w hSw); (try dsimp only at hSw); go_simp; try with_reducible rfl)
                    try simp only [Act.put, List.setIfInBounds_toArray, List.set_cons_zero, List.set_cons_succ]
                    refine wpAnyH_take (i := 4) (oi := ({ dst := some 102, op := Op.indexAddr 24 (Operand.tmp 100) (Operand.tmp 101), type := 0, pos := "ref.go:173", after := #[{ on := 2, ground := Ground.data }, { on := 3, ground := Ground.data }], guard := none } : Oper)) (v := ?v5x4) rfl (by kernel_rfl) (by kernel_rfl) (by kernel_rfl) (fun _ _ _ h => h) (Or.inl ⟨by rfl, ?hy5x4⟩) hH ?_
                    case hy5x4 => ((intro w hSw); (try dsimp only at hSw); go_simp; try with_reducible rfl)
                    try simp only [Act.put, List.setIfInBounds_toArray, List.set_cons_zero, List.set_cons_succ]
                    refine wpAnyH_take (i := 5) (oi := ({ dst := some 103, op := Op.fieldAddr 38 (Operand.tmp 102) 1, type := 0, pos := "ref.go:173", after := #[{ on := 4, ground := Ground.data }], guard := none } : Oper)) (v := ?v5x5) rfl (by kernel_rfl) (by kernel_rfl) (by kernel_rfl) (fun _ _ _ h => h) (Or.inl ⟨by rfl, ?hy5x5⟩) hH ?_
                    case hy5x5 => ((intro w hSw); (try dsimp only at hSw); go_simp; try with_reducible rfl)
                    try simp only [Act.put, List.setIfInBounds_toArray, List.set_cons_zero, List.set_cons_succ]
                    refine wpAnyH_take (i := 6) (oi := ({ dst := some 104, op := Op.load 3 (Operand.tmp 103), type := 3, pos := "ref.go:173", after := #[{ on := 5, ground := Ground.data }], guard := none } : Oper)) (v := ?v5x6) rfl (by kernel_rfl) (by kernel_rfl) (by kernel_rfl) (fun _ _ _ h => h) (Or.inl ⟨by rfl, ?hy5x6⟩) hH ?_
                    case hy5x6 => ((intro w hSw); (try dsimp only at hSw); go_simp; try with_reducible rfl)
                    try simp only [Act.put, List.setIfInBounds_toArray, List.set_cons_zero, List.set_cons_succ]
                    refine wpAnyH_take (i := 8) (oi := ({ dst := some 106, op := Op.move (Operand.tmp 7), type := 9, pos := "ref.go:173", after := #[], guard := none } : Oper)) (v := ?v5x8) rfl (by kernel_rfl) (by kernel_rfl) (by kernel_rfl) (fun _ _ _ h => h) (Or.inl ⟨by rfl, ?hy5x8⟩) hH ?_
                    case hy5x8 => ((intro w hSw); (try dsimp only at hSw); go_simp; try with_reducible rfl)
                    try simp only [Act.put, List.setIfInBounds_toArray, List.set_cons_zero, List.set_cons_succ]
                    refine wpAnyH_ready (rs := [7]) (by kernel_rfl) (by simp) ?_
                    refine AllReadyH.cons (o := _) rfl (fun K hK => ?_) AllReadyH.nil
                    go_simp
                    go_at_call 32
                    refine (HX.out _ wr.drew hH.2.1 (by have := hH.2.2.2.2.2.2.2.2.2.2.2.1; omega) _ TD1.out).mono ?_
                    rintro e wz0 ⟨rfl, hb0⟩
                    try go_wp2_with fail
                    have hF := FBox.below hH.1 hb0 (FBox.lt hH.1)
                    have hFA := FileAt.below hH.2.1 hb0 (show B ≤ (wr.drew).heap.size by have := hH.2.2.2.2.2.2.2.2.2.2.2.1; omega)
                    have hy1 := keepc hb0 (B := w.heap.size) hpw hH.2.2.2.2.2.2.2.2.2.2.2.1 hH.2.2.2.2.2.2.2.2.2.1
                    have hy2 := keepc hb0 (B := w.heap.size) hpw hH.2.2.2.2.2.2.2.2.2.2.2.1 hH.2.2.2.2.2.2.2.2.2.2.1
                    have hss := Nat.le_trans hH.2.2.2.2.2.2.2.2.2.2.2.1 hb0.size
                    have hBE := Below.link hH.2.2.2.2.2.2.2.2.2.2.2.2 hb0
                    obtain ⟨c0', c1', c2', c3', c4', c5', c6'⟩ := hF.cells
                    refine hK.out _ _ ⟨hF, hFA, c0', c1', c2', c3', c4', c5', c6', hy1, hy2, hss, hBE⟩ (fun hH1 => ?_)
                    clear hK K hH hF hFA hy1 hy2 hss hBE c0' c1' c2' c3' c4' c5' c6' hb0
                    try simp only [Act.put, List.setIfInBounds_toArray, List.set_cons_zero, List.set_cons_succ]
                    refine wpAnyH_take (i := 9) (oi := ({ dst := some 107, op := Op.binOp BinOp.eql 9 (Operand.tmp 105) (Operand.tmp 106) 9, type := 4, pos := "ref.go:173", after := #[{ on := 7, ground := Ground.data }, { on := 8, ground := Ground.data }], guard := none } : Oper)) (v := ?v5x9) rfl (by kernel_rfl) (by kernel_rfl) (by kernel_rfl) (fun _ _ _ h => h) (Or.inl ⟨by rfl, ?hy5x9⟩) hH1 ?_
                    case hy5x9 => ((intro w hSw); (try dsimp only at hSw); go_simp; try with_reducible rfl)
                    try simp only [Act.put, List.setIfInBounds_toArray, List.set_cons_zero, List.set_cons_succ]
                    refine wpAnyH_take (i := 10) (oi := ({ dst := some 108, op := Op.move (Operand.tmp 107), type := 4, pos := "ref.go:173", after := #[{ on := 9, ground := Ground.data }, { on := 7, ground := Ground.chain }], guard := none } : Oper)) (v := ?v5x10) rfl (by kernel_rfl) (by kernel_rfl) (by kernel_rfl) (fun _ _ _ h => h) (Or.inl ⟨by rfl, ?hy5x10⟩) hH1 ?_
                    case hy5x10 => ((intro w hSw); (try dsimp only at hSw); go_simp; try with_reducible rfl)
                    try simp only [Act.put, List.setIfInBounds_toArray, List.set_cons_zero, List.set_cons_succ]
                    refine wpAnyH_take (i := 11) (oi := ({ dst := some 109, op := Op.load 26 (Operand.tmp 2), type := 26, pos := "ref.go:173", after := #[{ on := 10, ground := Ground.guard }], guard := some (10, true) } : Oper)) (v := ?v5x11) rfl (by kernel_rfl) (by kernel_rfl) (by kernel_rfl) (fun _ _ _ h => h) (Or.inl ⟨by rfl, ?hy5x11⟩) hH1 ?_
                    case hy5x11 => ((intro w hSw); (try dsimp only at hSw); go_simp; try with_reducible rfl)
                    try simp only [Act.put, List.setIfInBounds_toArray, List.set_cons_zero, List.set_cons_succ]
                    refine wpAnyH_take (i := 12) (oi := ({ dst := some 110, op := Op.fieldAddr 26 (Operand.tmp 2) 6, type := 0, pos := "ref.go:173", after := #[{ on := 10, ground := Ground.guard }], guard := some (10, true) } : Oper)) (v := ?v5x12) rfl (by kernel_rfl) (by kernel_rfl) (by kernel_rfl) (fun _ _ _ h => h) (Or.inl ⟨by rfl, ?hy5x12⟩) hH1 ?_
                    case hy5x12 => ((intro w hSw); (try dsimp only at hSw); go_simp; try with_reducible rfl)
                    try simp only [Act.put, List.setIfInBounds_toArray, List.set_cons_zero, List.set_cons_succ]
                    refine wpAnyH_take (i := 13) (oi := ({ dst := some 111, op := Op.load 24 (Operand.tmp 110), type := 24, pos := "ref.go:173", after := #[{ on := 12, ground := Ground.data }, { on := 10, ground := Ground.guard }], guard := some (10, true) } : Oper)) (v := ?v5x13) rfl (by kernel_rfl) (by kernel_rfl) (by kernel_rfl) (fun _ _ _ h => h) (Or.inl ⟨by rfl, ?hy5x13⟩) hH1 ?_
                    case hy5x13 => ((intro w hSw); (try dsimp only at hSw); go_simp; try with_reducible rfl)
                    try simp only [Act.put, List.setIfInBounds_toArray, List.set_cons_zero, List.set_cons_succ]
                    refine wpAnyH_take (i := 14) (oi := ({ dst := some 112, op := Op.move (Operand.tmp 12), type := 3, pos := "ref.go:173", after := #[{ on := 10, ground := Ground.guard }], guard := some (10, true) } : Oper)) (v := ?v5x14) rfl (by kernel_rfl) (by kernel_rfl) (by kernel_rfl) (fun _ _ _ h => h) (Or.inl ⟨by rfl, ?hy5x14⟩) hH1 ?_
                    case hy5x14 => ((intro w hSw); (try dsimp only at hSw); go_simp; try with_reducible rfl)
                    try simp only [Act.put, List.setIfInBounds_toArray, List.set_cons_zero, List.set_cons_succ]
                    refine wpAnyH_take (i := 15) (oi := ({ dst := some 113, op := Op.indexAddr 24 (Operand.tmp 111) (Operand.tmp 112), type := 0, pos := "ref.go:173", after := #[{ on := 13, ground := Ground.data }, { on := 14, ground := Ground.data }, { on := 10, ground := Ground.guard }], guard := some (10, true) } : Oper)) (v := ?v5x15) rfl (by kernel_rfl) (by kernel_rfl) (by kernel_rfl) (fun _ _ _ h => h) (Or.inl ⟨by rfl, ?hy5x15⟩) hH1 ?_
                    case hy5x15 => ((intro w hSw); (try dsimp only at hSw); go_simp; try with_reducible rfl)
                    try simp only [Act.put, List.setIfInBounds_toArray, List.set_cons_zero, List.set_cons_succ]
                    refine wpAnyH_take (i := 16) (oi := ({ dst := some 114, op := Op.fieldAddr 38 (Operand.tmp 113) 2, type := 0, pos := "ref.go:173", after := #[{ on := 15, ground := Ground.data }, { on := 10, ground := Ground.guard }], guard := some (10, true) } : Oper)) (v := ?v5x16) rfl (by kernel_rfl) (by kernel_rfl) (by kernel_rfl) (fun _ _ _ h => h) (Or.inl ⟨by rfl, ?hy5x16⟩) hH1 ?_
                    case hy5x16 => ((intro w hSw); (try dsimp only at hSw); go_simp; try with_reducible rfl)
                    try simp only [Act.put, List.setIfInBounds_toArray, List.set_cons_zero, List.set_cons_succ]
                    refine wpAnyH_take (i := 17) (oi := ({ dst := some 115, op := Op.load 3 (Operand.tmp 114), type := 3, pos := "ref.go:173", after := #[{ on := 16, ground := Ground.data }, { on := 10, ground := Ground.guard }], guard := some (10, true) } : Oper)) (v := ?v5x17) rfl (by kernel_rfl) (by kernel_rfl) (by kernel_rfl) (fun _ _ _ h => h) (Or.inl ⟨by rfl, ?hy5x17⟩) hH1 ?_
                    case hy5x17 => ((intro w hSw); (try dsimp only at hSw); go_simp; try with_reducible rfl)
                    try simp only [Act.put, List.setIfInBounds_toArray, List.set_cons_zero, List.set_cons_succ]
                    refine wpAnyH_take (i := 19) (oi := ({ dst := some 117, op := Op.move (Operand.tmp 8), type := 9, pos := "ref.go:173", after := #[{ on := 10, ground := Ground.guard }], guard := some (10, true) } : Oper)) (v := ?v5x19) rfl (by kernel_rfl) (by kernel_rfl) (by kernel_rfl) (fun _ _ _ h => h) (Or.inl ⟨by rfl, ?hy5x19⟩) hH1 ?_
                    case hy5x19 => ((intro w hSw); (try dsimp only at hSw); go_simp; try with_reducible rfl)
                    try simp only [Act.put, List.setIfInBounds_toArray, List.set_cons_zero, List.set_cons_succ]
                    refine wpAnyH_ready (rs := [18]) (by kernel_rfl) (by simp) ?_
                    refine AllReadyH.cons (o := _) rfl (fun K hK => ?_) AllReadyH.nil
                    go_simp
                    go_at_call 32
                    refine (HX.out _ wz0 hH1.2.1 (by have := hH1.2.2.2.2.2.2.2.2.2.2.2.1; omega) _ TD2.out).mono ?_
                    rintro e wz1 ⟨rfl, hb1⟩
                    try go_wp2_with fail
                    have hF := FBox.below hH1.1 hb1 (FBox.lt hH1.1)
                    have hFA := FileAt.below hH1.2.1 hb1 (show B ≤ (wz0).heap.size by have := hH1.2.2.2.2.2.2.2.2.2.2.2.1; omega)
                    have hy1 := keepc hb1 (B := w.heap.size) hpw hH1.2.2.2.2.2.2.2.2.2.2.2.1 hH1.2.2.2.2.2.2.2.2.2.1
                    have hy2 := keepc hb1 (B := w.heap.size) hpw hH1.2.2.2.2.2.2.2.2.2.2.2.1 hH1.2.2.2.2.2.2.2.2.2.2.1
                    have hss := Nat.le_trans hH1.2.2.2.2.2.2.2.2.2.2.2.1 hb1.size
                    have hBE := Below.link hH1.2.2.2.2.2.2.2.2.2.2.2.2 hb1
                    obtain ⟨c0', c1', c2', c3', c4', c5', c6'⟩ := hF.cells
                    refine hK.out _ _ ⟨hF, hFA, c0', c1', c2', c3', c4', c5', c6', hy1, hy2, hss, hBE⟩ (fun hH2 => ?_)
                    clear hK K hH1 hF hFA hy1 hy2 hss hBE c0' c1' c2' c3' c4' c5' c6' hb1
                    try simp only [Act.put, List.setIfInBounds_toArray, List.set_cons_zero, List.set_cons_succ]
                    refine wpAnyH_take (i := 20) (oi := ({ dst := some 118, op := Op.binOp BinOp.eql 9 (Operand.tmp 116) (Operand.tmp 117) 9, type := 4, pos := "ref.go:173", after := #[{ on := 18, ground := Ground.data }, { on := 19, ground := Ground.data }, { on := 10, ground := Ground.guard }], guard := some (10, true) } : Oper)) (v := ?v5x20) rfl (by kernel_rfl) (by kernel_rfl) (by kernel_rfl) (fun _ _ _ h => h) (Or.inl ⟨by rfl, ?hy5x20⟩) hH2 ?_
                    case hy5x20 => ((intro w hSw); (try dsimp only at hSw); go_simp; try with_reducible rfl)
                    try simp only [Act.put, List.setIfInBounds_toArray, List.set_cons_zero, List.set_cons_succ]
                    refine wpAnyH_take (i := 21) (oi := ({ dst := some 119, op := Op.pick (Operand.tmp 108) (Operand.tmp 118) (Operand.const (Value.bool false)), type := 4, pos := "ref.go:173", after := #[{ on := 10, ground := Ground.data }, { on := 20, ground := Ground.data }], guard := none } : Oper)) (v := ?v5x21) rfl (by kernel_rfl) (by kernel_rfl) (by kernel_rfl) (fun _ _ _ h => h) (Or.inl ⟨by rfl, ?hy5x21⟩) hH2 ?_
                    case hy5x21 => ((intro w hSw); (try dsimp only at hSw); go_simp; try with_reducible rfl)
                    try simp only [Act.put, List.setIfInBounds_toArray, List.set_cons_zero, List.set_cons_succ]
                    refine wpAnyH_done (by kernel_rfl) ?_ _
                    have FLI := Lib.hid hH2.2.1
                    have BFI := Lib.hid hH2.1
                    have BEI := Lib.hid hH2.2.2.2.2.2.2.2.2.2.2.2.2
                    clear hH2 c0 c1 c2 c3 c4 c5 c6 y1 y2
                    go_wp2
                    go_roundg (gk - 1)
                    case measure => exact hgg
                    case rel => exact ⟨k + 1, by go_num, by omega, HNX.out.trans HF.out, FLI.out, BFI.out, BEI.out⟩
                  | true =>
                    have hs1 : ((textP f.pool d.nm).toList == (textP f.pool m.nm).toList) = true := (str_beq _ _).trans hn
                    have hs2 : ((textP f.pool d.ds).toList == (textP f.pool m.ds).toList) = true := (str_beq _ _).trans hn2
                    have HF := Lib.hid (show sameM f.pool d m = true by unfold sameM sameN sameD; rw [hn, hn2]; rfl)
                    have HRR := Lib.hid (show R = 15 by rw [HRL.out, HAL.out HF.out]; rfl)
                    clear hn hn2
                    go_wp2
                    refine wp_region_held_drew (S := (fun w' => FBox w.heap.size Ap cp Ai ci Af cf (some ⟨p0, o0, none⟩) cm f w' ∧ FileAt B w' (.agg #[.slice Ap f.pool.length cp, .int .i64 f.fl, .int .i64 f.this, .int .i64 f.super, .slice Ai f.ifs.length ci, .slice Af f.fds.length cf, .slice (some ⟨p0, o0, none⟩) f.mts.length cm]) f ∧ w'.cell? ⟨w.heap.size, 0, none⟩ = some (.slice Ap f.pool.length cp) ∧ w'.cell? ⟨w.heap.size, 1, none⟩ = some (.int .i64 f.fl) ∧ w'.cell? ⟨w.heap.size, 2, none⟩ = some (.int .i64 f.this) ∧ w'.cell? ⟨w.heap.size, 3, none⟩ = some (.int .i64 f.super) ∧ w'.cell? ⟨w.heap.size, 4, none⟩ = some (.slice Ai f.ifs.length ci) ∧ w'.cell? ⟨w.heap.size, 5, none⟩ = some (.slice Af f.fds.length cf) ∧ w'.cell? ⟨w.heap.size, 6, none⟩ = some (.slice (some ⟨p0, o0, none⟩) f.mts.length cm) ∧ w'.cell? ⟨p0, o0 + k * 7 + 1, none⟩ = some (.int .i64 d.nm) ∧ w'.cell? ⟨p0, o0 + k * 7 + 2, none⟩ = some (.int .i64 d.ds) ∧ w.heap.size ≤ w'.heap.size ∧ Below w.heap.size w w')) (by kernel_rfl) (⟨BF9.out.drew, FL9.out.drew, c0, c1, c2, c3, c4, c5, c6, y1, y2, hsz9, BE9.out.drew⟩) (fun hH => ?_)
                    refine wpAnyH_take (i := 0) (oi := ({ dst := some 98, op := Op.load 26 (Operand.tmp 2), type := 26, pos := "ref.go:173", after := #[], guard := none } : Oper)) (v := ?v6x0) rfl (by kernel_rfl) (by kernel_rfl) (by kernel_rfl) (fun _ _ _ h => h) (Or.inl ⟨by rfl, ?hy6x0⟩) hH ?_
                    case hy6x0 => ((intro w hSw); (try dsimp only at hSw); go_simp; try with_reducible rfl)
                    try simp only [Act.put, List.setIfInBounds_toArray, List.set_cons_zero, List.set_cons_succ]
                    refine wpAnyH_take (i := 1) (oi := ({ dst := some 99, op := Op.fieldAddr 26 (Operand.tmp 2) 6, type := 0, pos := "ref.go:173", after := #[], guard := none } : Oper)) (v := ?v6x1) rfl (by kernel_rfl) (by kernel_rfl) (by kernel_rfl) (fun _ _ _ h => h) (Or.inl ⟨by rfl, ?hy6x1⟩) hH ?_
                    case hy6x1 => ((intro w hSw); (try dsimp only at hSw); go_simp; try with_reducible rfl)
                    try simp only [Act.put, List.setIfInBounds_toArray, List.set_cons_zero, List.set_cons_succ]
                    refine wpAnyH_take (i := 2) (oi := ({ dst := some 100, op := Op.load 24 (Operand.tmp 99), type := 24, pos := "ref.go:173", after := #[{ on := 1, ground := Ground.data }], guard := none } : Oper)) (v := ?v6x2) rfl (by kernel_rfl) (by kernel_rfl) (by kernel_rfl) (fun _ _ _ h => h) (Or.inl ⟨by rfl, ?hy6x2⟩) hH ?_
                    case hy6x2 => ((intro w hSw); (try dsimp only at hSw); go_simp; try with_reducible rfl)
                    try simp only [Act.put, List.setIfInBounds_toArray, List.set_cons_zero, List.set_cons_succ]
                    refine wpAnyH_take (i := 3) (oi := ({ dst := some 101, op := Op.move (Operand.tmp 12), type := 3, pos := "ref.go:173", after := #[], guard := none } : Oper)) (v := ?v6x3) rfl (by kernel_rfl) (by kernel_rfl) (by kernel_rfl) (fun _ _ _ h => h) (Or.inl ⟨by rfl, ?hy6x3⟩) hH ?_
                    case hy6x3 => ((intro w hSw); (try dsimp only at hSw); go_simp; try with_reducible rfl)
                    try simp only [Act.put, List.setIfInBounds_toArray, List.set_cons_zero, List.set_cons_succ]
                    refine wpAnyH_take (i := 4) (oi := ({ dst := some 102, op := Op.indexAddr 24 (Operand.tmp 100) (Operand.tmp 101), type := 0, pos := "ref.go:173", after := #[{ on := 2, ground := Ground.data }, { on := 3, ground := Ground.data }], guard := none } : Oper)) (v := ?v6x4) rfl (by kernel_rfl) (by kernel_rfl) (by kernel_rfl) (fun _ _ _ h => h) (Or.inl ⟨by rfl, ?hy6x4⟩) hH ?_
                    case hy6x4 => ((intro w hSw); (try dsimp only at hSw); go_simp; try with_reducible rfl)
                    try simp only [Act.put, List.setIfInBounds_toArray, List.set_cons_zero, List.set_cons_succ]
                    refine wpAnyH_take (i := 5) (oi := ({ dst := some 103, op := Op.fieldAddr 38 (Operand.tmp 102) 1, type := 0, pos := "ref.go:173", after := #[{ on := 4, ground := Ground.data }], guard := none } : Oper)) (v := ?v6x5) rfl (by kernel_rfl) (by kernel_rfl) (by kernel_rfl) (fun _ _ _ h => h) (Or.inl ⟨by rfl, ?hy6x5⟩) hH ?_
                    case hy6x5 => ((intro w hSw); (try dsimp only at hSw); go_simp; try with_reducible rfl)
                    try simp only [Act.put, List.setIfInBounds_toArray, List.set_cons_zero, List.set_cons_succ]
                    refine wpAnyH_take (i := 6) (oi := ({ dst := some 104, op := Op.load 3 (Operand.tmp 103), type := 3, pos := "ref.go:173", after := #[{ on := 5, ground := Ground.data }], guard := none } : Oper)) (v := ?v6x6) rfl (by kernel_rfl) (by kernel_rfl) (by kernel_rfl) (fun _ _ _ h => h) (Or.inl ⟨by rfl, ?hy6x6⟩) hH ?_
                    case hy6x6 => ((intro w hSw); (try dsimp only at hSw); go_simp; try with_reducible rfl)
                    try simp only [Act.put, List.setIfInBounds_toArray, List.set_cons_zero, List.set_cons_succ]
                    refine wpAnyH_take (i := 8) (oi := ({ dst := some 106, op := Op.move (Operand.tmp 7), type := 9, pos := "ref.go:173", after := #[], guard := none } : Oper)) (v := ?v6x8) rfl (by kernel_rfl) (by kernel_rfl) (by kernel_rfl) (fun _ _ _ h => h) (Or.inl ⟨by rfl, ?hy6x8⟩) hH ?_
                    case hy6x8 => ((intro w hSw); (try dsimp only at hSw); go_simp; try with_reducible rfl)
                    try simp only [Act.put, List.setIfInBounds_toArray, List.set_cons_zero, List.set_cons_succ]
                    refine wpAnyH_ready (rs := [7]) (by kernel_rfl) (by simp) ?_
                    refine AllReadyH.cons (o := _) rfl (fun K hK => ?_) AllReadyH.nil
                    go_simp
                    go_at_call 32
                    refine (HX.out _ wr.drew hH.2.1 (by have := hH.2.2.2.2.2.2.2.2.2.2.2.1; omega) _ TD1.out).mono ?_
                    rintro e wz0 ⟨rfl, hb0⟩
                    try go_wp2_with fail
                    have hF := FBox.below hH.1 hb0 (FBox.lt hH.1)
                    have hFA := FileAt.below hH.2.1 hb0 (show B ≤ (wr.drew).heap.size by have := hH.2.2.2.2.2.2.2.2.2.2.2.1; omega)
                    have hy1 := keepc hb0 (B := w.heap.size) hpw hH.2.2.2.2.2.2.2.2.2.2.2.1 hH.2.2.2.2.2.2.2.2.2.1
                    have hy2 := keepc hb0 (B := w.heap.size) hpw hH.2.2.2.2.2.2.2.2.2.2.2.1 hH.2.2.2.2.2.2.2.2.2.2.1
                    have hss := Nat.le_trans hH.2.2.2.2.2.2.2.2.2.2.2.1 hb0.size
                    have hBE := Below.link hH.2.2.2.2.2.2.2.2.2.2.2.2 hb0
                    obtain ⟨c0', c1', c2', c3', c4', c5', c6'⟩ := hF.cells
                    refine hK.out _ _ ⟨hF, hFA, c0', c1', c2', c3', c4', c5', c6', hy1, hy2, hss, hBE⟩ (fun hH1 => ?_)
                    clear hK K hH hF hFA hy1 hy2 hss hBE c0' c1' c2' c3' c4' c5' c6' hb0
                    try simp only [Act.put, List.setIfInBounds_toArray, List.set_cons_zero, List.set_cons_succ]
                    refine wpAnyH_take (i := 9) (oi := ({ dst := some 107, op := Op.binOp BinOp.eql 9 (Operand.tmp 105) (Operand.tmp 106) 9, type := 4, pos := "ref.go:173", after := #[{ on := 7, ground := Ground.data }, { on := 8, ground := Ground.data }], guard := none } : Oper)) (v := ?v6x9) rfl (by kernel_rfl) (by kernel_rfl) (by kernel_rfl) (fun _ _ _ h => h) (Or.inl ⟨by rfl, ?hy6x9⟩) hH1 ?_
                    case hy6x9 => ((intro w hSw); (try dsimp only at hSw); go_simp; try with_reducible rfl)
                    try simp only [Act.put, List.setIfInBounds_toArray, List.set_cons_zero, List.set_cons_succ]
                    refine wpAnyH_take (i := 10) (oi := ({ dst := some 108, op := Op.move (Operand.tmp 107), type := 4, pos := "ref.go:173", after := #[{ on := 9, ground := Ground.data }, { on := 7, ground := Ground.chain }], guard := none } : Oper)) (v := ?v6x10) rfl (by kernel_rfl) (by kernel_rfl) (by kernel_rfl) (fun _ _ _ h => h) (Or.inl ⟨by rfl, ?hy6x10⟩) hH1 ?_
                    case hy6x10 => ((intro w hSw); (try dsimp only at hSw); go_simp; try with_reducible rfl)
                    try simp only [Act.put, List.setIfInBounds_toArray, List.set_cons_zero, List.set_cons_succ]
                    refine wpAnyH_take (i := 11) (oi := ({ dst := some 109, op := Op.load 26 (Operand.tmp 2), type := 26, pos := "ref.go:173", after := #[{ on := 10, ground := Ground.guard }], guard := some (10, true) } : Oper)) (v := ?v6x11) rfl (by kernel_rfl) (by kernel_rfl) (by kernel_rfl) (fun _ _ _ h => h) (Or.inl ⟨by rfl, ?hy6x11⟩) hH1 ?_
                    case hy6x11 => ((intro w hSw); (try dsimp only at hSw); go_simp; try with_reducible rfl)
                    try simp only [Act.put, List.setIfInBounds_toArray, List.set_cons_zero, List.set_cons_succ]
                    refine wpAnyH_take (i := 12) (oi := ({ dst := some 110, op := Op.fieldAddr 26 (Operand.tmp 2) 6, type := 0, pos := "ref.go:173", after := #[{ on := 10, ground := Ground.guard }], guard := some (10, true) } : Oper)) (v := ?v6x12) rfl (by kernel_rfl) (by kernel_rfl) (by kernel_rfl) (fun _ _ _ h => h) (Or.inl ⟨by rfl, ?hy6x12⟩) hH1 ?_
                    case hy6x12 => ((intro w hSw); (try dsimp only at hSw); go_simp; try with_reducible rfl)
                    try simp only [Act.put, List.setIfInBounds_toArray, List.set_cons_zero, List.set_cons_succ]
                    refine wpAnyH_take (i := 13) (oi := ({ dst := some 111, op := Op.load 24 (Operand.tmp 110), type := 24, pos := "ref.go:173", after := #[{ on := 12, ground := Ground.data }, { on := 10, ground := Ground.guard }], guard := some (10, true) } : Oper)) (v := ?v6x13) rfl (by kernel_rfl) (by kernel_rfl) (by kernel_rfl) (fun _ _ _ h => h) (Or.inl ⟨by rfl, ?hy6x13⟩) hH1 ?_
                    case hy6x13 => ((intro w hSw); (try dsimp only at hSw); go_simp; try with_reducible rfl)
                    try simp only [Act.put, List.setIfInBounds_toArray, List.set_cons_zero, List.set_cons_succ]
                    refine wpAnyH_take (i := 14) (oi := ({ dst := some 112, op := Op.move (Operand.tmp 12), type := 3, pos := "ref.go:173", after := #[{ on := 10, ground := Ground.guard }], guard := some (10, true) } : Oper)) (v := ?v6x14) rfl (by kernel_rfl) (by kernel_rfl) (by kernel_rfl) (fun _ _ _ h => h) (Or.inl ⟨by rfl, ?hy6x14⟩) hH1 ?_
                    case hy6x14 => ((intro w hSw); (try dsimp only at hSw); go_simp; try with_reducible rfl)
                    try simp only [Act.put, List.setIfInBounds_toArray, List.set_cons_zero, List.set_cons_succ]
                    refine wpAnyH_take (i := 15) (oi := ({ dst := some 113, op := Op.indexAddr 24 (Operand.tmp 111) (Operand.tmp 112), type := 0, pos := "ref.go:173", after := #[{ on := 13, ground := Ground.data }, { on := 14, ground := Ground.data }, { on := 10, ground := Ground.guard }], guard := some (10, true) } : Oper)) (v := ?v6x15) rfl (by kernel_rfl) (by kernel_rfl) (by kernel_rfl) (fun _ _ _ h => h) (Or.inl ⟨by rfl, ?hy6x15⟩) hH1 ?_
                    case hy6x15 => ((intro w hSw); (try dsimp only at hSw); go_simp; try with_reducible rfl)
                    try simp only [Act.put, List.setIfInBounds_toArray, List.set_cons_zero, List.set_cons_succ]
                    refine wpAnyH_take (i := 16) (oi := ({ dst := some 114, op := Op.fieldAddr 38 (Operand.tmp 113) 2, type := 0, pos := "ref.go:173", after := #[{ on := 15, ground := Ground.data }, { on := 10, ground := Ground.guard }], guard := some (10, true) } : Oper)) (v := ?v6x16) rfl (by kernel_rfl) (by kernel_rfl) (by kernel_rfl) (fun _ _ _ h => h) (Or.inl ⟨by rfl, ?hy6x16⟩) hH1 ?_
                    case hy6x16 => ((intro w hSw); (try dsimp only at hSw); go_simp; try with_reducible rfl)
                    try simp only [Act.put, List.setIfInBounds_toArray, List.set_cons_zero, List.set_cons_succ]
                    refine wpAnyH_take (i := 17) (oi := ({ dst := some 115, op := Op.load 3 (Operand.tmp 114), type := 3, pos := "ref.go:173", after := #[{ on := 16, ground := Ground.data }, { on := 10, ground := Ground.guard }], guard := some (10, true) } : Oper)) (v := ?v6x17) rfl (by kernel_rfl) (by kernel_rfl) (by kernel_rfl) (fun _ _ _ h => h) (Or.inl ⟨by rfl, ?hy6x17⟩) hH1 ?_
                    case hy6x17 => ((intro w hSw); (try dsimp only at hSw); go_simp; try with_reducible rfl)
                    try simp only [Act.put, List.setIfInBounds_toArray, List.set_cons_zero, List.set_cons_succ]
                    refine wpAnyH_take (i := 19) (oi := ({ dst := some 117, op := Op.move (Operand.tmp 8), type := 9, pos := "ref.go:173", after := #[{ on := 10, ground := Ground.guard }], guard := some (10, true) } : Oper)) (v := ?v6x19) rfl (by kernel_rfl) (by kernel_rfl) (by kernel_rfl) (fun _ _ _ h => h) (Or.inl ⟨by rfl, ?hy6x19⟩) hH1 ?_
                    case hy6x19 => ((intro w hSw); (try dsimp only at hSw); go_simp; try with_reducible rfl)
                    try simp only [Act.put, List.setIfInBounds_toArray, List.set_cons_zero, List.set_cons_succ]
                    refine wpAnyH_ready (rs := [18]) (by kernel_rfl) (by simp) ?_
                    refine AllReadyH.cons (o := _) rfl (fun K hK => ?_) AllReadyH.nil
                    go_simp
                    go_at_call 32
                    refine (HX.out _ wz0 hH1.2.1 (by have := hH1.2.2.2.2.2.2.2.2.2.2.2.1; omega) _ TD2.out).mono ?_
                    rintro e wz1 ⟨rfl, hb1⟩
                    try go_wp2_with fail
                    have hF := FBox.below hH1.1 hb1 (FBox.lt hH1.1)
                    have hFA := FileAt.below hH1.2.1 hb1 (show B ≤ (wz0).heap.size by have := hH1.2.2.2.2.2.2.2.2.2.2.2.1; omega)
                    have hy1 := keepc hb1 (B := w.heap.size) hpw hH1.2.2.2.2.2.2.2.2.2.2.2.1 hH1.2.2.2.2.2.2.2.2.2.1
                    have hy2 := keepc hb1 (B := w.heap.size) hpw hH1.2.2.2.2.2.2.2.2.2.2.2.1 hH1.2.2.2.2.2.2.2.2.2.2.1
                    have hss := Nat.le_trans hH1.2.2.2.2.2.2.2.2.2.2.2.1 hb1.size
                    have hBE := Below.link hH1.2.2.2.2.2.2.2.2.2.2.2.2 hb1
                    obtain ⟨c0', c1', c2', c3', c4', c5', c6'⟩ := hF.cells
                    refine hK.out _ _ ⟨hF, hFA, c0', c1', c2', c3', c4', c5', c6', hy1, hy2, hss, hBE⟩ (fun hH2 => ?_)
                    clear hK K hH1 hF hFA hy1 hy2 hss hBE c0' c1' c2' c3' c4' c5' c6' hb1
                    try simp only [Act.put, List.setIfInBounds_toArray, List.set_cons_zero, List.set_cons_succ]
                    refine wpAnyH_take (i := 20) (oi := ({ dst := some 118, op := Op.binOp BinOp.eql 9 (Operand.tmp 116) (Operand.tmp 117) 9, type := 4, pos := "ref.go:173", after := #[{ on := 18, ground := Ground.data }, { on := 19, ground := Ground.data }, { on := 10, ground := Ground.guard }], guard := some (10, true) } : Oper)) (v := ?v6x20) rfl (by kernel_rfl) (by kernel_rfl) (by kernel_rfl) (fun _ _ _ h => h) (Or.inl ⟨by rfl, ?hy6x20⟩) hH2 ?_
                    case hy6x20 => ((intro w hSw); (try dsimp only at hSw); go_simp; try with_reducible rfl)
                    try simp only [Act.put, List.setIfInBounds_toArray, List.set_cons_zero, List.set_cons_succ]
                    refine wpAnyH_take (i := 21) (oi := ({ dst := some 119, op := Op.pick (Operand.tmp 108) (Operand.tmp 118) (Operand.const (Value.bool false)), type := 4, pos := "ref.go:173", after := #[{ on := 10, ground := Ground.data }, { on := 20, ground := Ground.data }], guard := none } : Oper)) (v := ?v6x21) rfl (by kernel_rfl) (by kernel_rfl) (by kernel_rfl) (fun _ _ _ h => h) (Or.inl ⟨by rfl, ?hy6x21⟩) hH2 ?_
                    case hy6x21 => ((intro w hSw); (try dsimp only at hSw); go_simp; try with_reducible rfl)
                    try simp only [Act.put, List.setIfInBounds_toArray, List.set_cons_zero, List.set_cons_succ]
                    refine wpAnyH_done (by kernel_rfl) ?_ _
                    have FLI := Lib.hid hH2.2.1
                    have BFI := Lib.hid hH2.1
                    have BEI := Lib.hid hH2.2.2.2.2.2.2.2.2.2.2.2.2
                    clear hH2 c0 c1 c2 c3 c4 c5 c6 y1 y2
                    go_wp2
                    go_ret
                    exact ⟨ret_i HRR.out.symm, BEI.out⟩
              · have hki : k = i := by omega
                have HRR := Lib.hid (show R = 0 by rw [HRL.out, ← hki, HANY.out]; rfl)
                clear hki
                go_wp2
                go_ret
                exact ⟨ret_i HRR.out.symm, BE9.out⟩
    · clear hc
      have HFLZ := Lib.hid hz
      have gl1 : 0 ≤ m.fl := by omega
      have gl2 : m.fl ≤ 2 := by omega
      have g0 : (m.fl == 0) = false := by simp [hz]
      have g0' : (m.fl != 0) = true := by simp [hz]
      have g1 : (m.fl == 1) = true := by simp [hz]
      have g1' : (m.fl != 1) = false := by simp [hz]
      have g2 : (m.fl == 2) = false := by simp [hz]
      have g2' : (m.fl != 2) = true := by simp [hz]
      have HNE := Lib.hid (show m.fl ≠ 2 by omega)
      clear hz
      rcases (Classical.em (E = 0)).symm with hE | hE
      · have HR1 := Lib.hid (show R = E by rw [HR.out, if_neg hE])
        have ge : (E == 0) = false := by simpa using hE
        have ge' : (E != 0) = true := by simpa using hE
        clear hE
        go_enter Try.func62, Try.ntmps62
        go_wp2_with fail
        refine (HNM.out _ _ FL0.out (Nat.le_trans hB BE0.out.size)).mono ?_
        rintro e w1 ⟨rfl, hb⟩
        have BE1 := Lib.hid (Below.link BE0.out hb)
        have FL1 := Lib.hid (FL0.out.below hb (Nat.le_trans hB BE0.out.size))
        have BF1 := Lib.hid (BF0.out.below hb BF0.out.lt)
        have ltBF1 := BF1.out.lt
        have BM1 := Lib.hid (BM0.out.below hb BM0.out.lt)
        have ltBM1 := BM1.out.lt
        clear hb
        obtain ⟨c0, c1, c2, c3, c4, c5, c6⟩ := BF1.out.cells
        obtain ⟨m0, m1, m2, m3, m4, m5, m6⟩ := BM1.out.cells
        go_wp2
        go_ret
        exact ⟨ret_i HR1.out.symm, BE1.out⟩
      subst hE
      obtain ⟨tg1, tg2⟩ := HTG.out rfl
      have T1 := Lib.hid tg1
      have T2 := Lib.hid tg2
      clear tg1 tg2
      obtain ⟨⟨xs, ⟨dd, rn⟩, vo, er⟩, hx⟩ : ∃ x, res (methL (L (textP f.pool m.ds))) = x := ⟨_, rfl⟩
      have HVB := Lib.hid (show voidB (textP f.pool m.ds) = vo by unfold voidB; rw [hx])
      rw [hx] at HM
      unfold sgV at HM
      simp only at HM
      clear hx
      go_enter Try.func62, Try.ntmps62
      go_wp2_with fail
      refine (HNM.out _ _ FL0.out (Nat.le_trans hB BE0.out.size)).mono ?_
      rintro e w1 ⟨rfl, hb⟩
      have BE1 := Lib.hid (Below.link BE0.out hb)
      have FL1 := Lib.hid (FL0.out.below hb (Nat.le_trans hB BE0.out.size))
      have BF1 := Lib.hid (BF0.out.below hb BF0.out.lt)
      have ltBF1 := BF1.out.lt
      have BM1 := Lib.hid (BM0.out.below hb BM0.out.lt)
      have ltBM1 := BM1.out.lt
      clear hb
      obtain ⟨c0, c1, c2, c3, c4, c5, c6⟩ := BF1.out.cells
      obtain ⟨m0, m1, m2, m3, m4, m5, m6⟩ := BM1.out.cells
      go_wp2_with fail
      refine (HX.out _ _ FL1.out (Nat.le_trans hB BE1.out.size) _ T1.out).mono ?_
      rintro e w2 ⟨rfl, hb⟩
      have BE2 := Lib.hid (Below.link BE1.out hb)
      have FL2 := Lib.hid (FL1.out.below hb (Nat.le_trans hB BE1.out.size))
      have BF2 := Lib.hid (BF1.out.below hb BF1.out.lt)
      have ltBF2 := BF2.out.lt
      have BM2 := Lib.hid (BM1.out.below hb BM1.out.lt)
      have ltBM2 := BM2.out.lt
      clear hb
      clear c0 c1 c2 c3 c4 c5 c6 m0 m1 m2 m3 m4 m5 m6
      obtain ⟨c0, c1, c2, c3, c4, c5, c6⟩ := BF2.out.cells
      obtain ⟨m0, m1, m2, m3, m4, m5, m6⟩ := BM2.out.cells
      go_wp2_with fail
      refine (HX.out _ _ FL2.out (Nat.le_trans hB BE2.out.size) _ T2.out).mono ?_
      rintro e w3 ⟨rfl, hb⟩
      have BE3 := Lib.hid (Below.link BE2.out hb)
      have FL3 := Lib.hid (FL2.out.below hb (Nat.le_trans hB BE2.out.size))
      have BF3 := Lib.hid (BF2.out.below hb BF2.out.lt)
      have ltBF3 := BF3.out.lt
      have BM3 := Lib.hid (BM2.out.below hb BM2.out.lt)
      have ltBM3 := BM3.out.lt
      clear hb
      clear c0 c1 c2 c3 c4 c5 c6 m0 m1 m2 m3 m4 m5 m6
      obtain ⟨c0, c1, c2, c3, c4, c5, c6⟩ := BF3.out.cells
      obtain ⟨m0, m1, m2, m3, m4, m5, m6⟩ := BM3.out.cells
      go_wp2_with fail
      refine (HM _).out.mono ?_
      rintro e w4 ⟨v4, rfl, own, hb⟩
      obtain ⟨a4, c4', rfl⟩ := own_form own
      clear own
      generalize xs.length = nx at *
      have BE4 := Lib.hid (Below.link BE3.out hb)
      have FL4 := Lib.hid (FL3.out.below hb (Nat.le_trans hB BE3.out.size))
      have BF4 := Lib.hid (BF3.out.below hb BF3.out.lt)
      have ltBF4 := BF4.out.lt
      have BM4 := Lib.hid (BM3.out.below hb BM3.out.lt)
      have ltBM4 := BM4.out.lt
      clear hb
      clear c0 c1 c2 c3 c4 c5 c6 m0 m1 m2 m3 m4 m5 m6
      obtain ⟨c0, c1, c2, c3, c4, c5, c6⟩ := BF4.out.cells
      obtain ⟨m0, m1, m2, m3, m4, m5, m6⟩ := BM4.out.cells
      have FL5 := Lib.hid (FL4.out.alloc (Nat.le_trans hB BE4.out.size) (.cells #[.slice a4 nx c4', .int .i64 dd, .string (mkB rn), .bool vo] 112))
      have BE5 := Lib.hid (BE4.out.alloc BE4.out.size (.cells #[.slice a4 nx c4', .int .i64 dd, .string (mkB rn), .bool vo] 112))
      have BF5 := Lib.hid (BF4.out.alloc (.cells #[.slice a4 nx c4', .int .i64 dd, .string (mkB rn), .bool vo] 112))
      have BM5 := Lib.hid (BM4.out.alloc (.cells #[.slice a4 nx c4', .int .i64 dd, .string (mkB rn), .bool vo] 112))
      by_cases hi1 : textP f.pool m.nm = initN
      · have hc1 : ¬ textP f.pool m.nm = clinitN := by rw [hi1]; decide
        have HSP := Lib.hid (show specE f.pool m = 10 by unfold specE; rw [if_pos hi1, if_neg (fun h => absurd h.1 (by rw [HFLZ.out]; decide))])
        have e1 : ((textP f.pool m.nm).toList == [60, 105, 110, 105, 116, 62]) = true := beq_lit _ initN _ (toList_data initN) _ (by simpa using hi1)
        have e2 : ((textP f.pool m.nm).toList == [60, 99, 108, 105, 110, 105, 116, 62]) = false := beq_lit _ clinitN _ (toList_data clinitN) _ (by simpa using hc1)
        clear hi1 hc1
        have HRR := Lib.hid (show R = 10 by have h := HR.out; rw [HSP.out] at h; simpa using h)
        go_wp2
        go_ret
        exact ⟨ret_i HRR.out.symm, BE5.out⟩
      · by_cases hc1 : textP f.pool m.nm = clinitN
        · by_cases hv1 : textP f.pool m.ds = voidD
          · have HSP := Lib.hid (show specE f.pool m = 0 by unfold specE; rw [if_neg hi1, if_pos hc1, if_pos ⟨HFLZ.out, hv1⟩])
            have e1 : ((textP f.pool m.nm).toList == [60, 105, 110, 105, 116, 62]) = false := beq_lit _ initN _ (toList_data initN) _ (by simpa using hi1)
            have e2 : ((textP f.pool m.nm).toList == [60, 99, 108, 105, 110, 105, 116, 62]) = true := beq_lit _ clinitN _ (toList_data clinitN) _ (by simpa using hc1)
            have e3 : ((textP f.pool m.ds).toList == [40, 41, 86]) = true := beq_lit _ voidD _ (toList_data voidD) _ (by simpa using hv1)
            clear hi1 hc1 hv1
            have HRC := Lib.hid (show R = if bodyE f.pool m = 0 then (if (f.mts.take i).any (fun d => sameM f.pool d m) = true then 15 else 0) else bodyE f.pool m by have h := HR.out; rw [HSP.out] at h; simpa using h)
            have HCB := Lib.hid (refCoded_any f _ _ FL5.out (Nat.le_trans hB BE5.out.size) m A2 c2' (show HRow B _ (.slice A2 m.hs.length c2') m.hs from Row.keep HRW.out fun p hp => (BE5.out.cell (p := p) (by omega)).trans (BEA.out.cell (p := p) (by omega)).symm) HNE.out)
            generalize bodyE f.pool m = E2 at *
            go_wp2_with fail
            refine (HCB.out).mono ?_
            rintro e w6 ⟨rfl, hb⟩
            have BE6 := Lib.hid (Below.link BE5.out hb)
            have FL6 := Lib.hid (FL5.out.below hb (Nat.le_trans hB BE5.out.size))
            have BF6 := Lib.hid (BF5.out.below hb BF5.out.lt)
            have ltBF6 := BF6.out.lt
            have BM6 := Lib.hid (BM5.out.below hb BM5.out.lt)
            have ltBM6 := BM6.out.lt
            clear hb
            clear c0 c1 c2 c3 c4 c5 c6 m0 m1 m2 m3 m4 m5 m6
            obtain ⟨c0, c1, c2, c3, c4, c5, c6⟩ := BF6.out.cells
            obtain ⟨m0, m1, m2, m3, m4, m5, m6⟩ := BM6.out.cells
            rcases (Classical.em (E2 = 0)).symm with hE2 | hE2
            · have HRR := Lib.hid (show R = E2 by rw [HRC.out, if_neg hE2])
              have ge2 : (E2 == 0) = false := by simpa using hE2
              have ge2' : (E2 != 0) = true := by simpa using hE2
              clear hE2
              go_wp2
              go_ret
              exact ⟨ret_i HRR.out.symm, BE6.out⟩
            · subst hE2
              have HRL := Lib.hid (show R = (if (f.mts.take i).any (fun d => sameM f.pool d m) = true then 15 else 0) by rw [HRC.out, if_pos rfl])
              go_wp2
              go_loopg [12] i (fun g iv wx => ∃ k : Nat, iv = .int .i64 k ∧ k + g = i ∧ (f.mts.take k).any (fun d => sameM f.pool d m) = false ∧ FileAt B wx (.agg #[.slice Ap f.pool.length cp, .int .i64 f.fl, .int .i64 f.this, .int .i64 f.super, .slice Ai f.ifs.length ci, .slice Af f.fds.length cf, .slice (some ⟨p0, o0, none⟩) f.mts.length cm]) f ∧ FBox w.heap.size Ap cp Ai ci Af cf (some ⟨p0, o0, none⟩) cm f wx ∧ Below w.heap.size w wx)
              case atStart => exact ⟨0, rfl, by omega, by simp, FL6.out, BF6.out, BE6.out⟩
              case round =>
                obtain ⟨k, rfl, hkg, hany, hfl, hbf, hbe⟩ := hrel
                have HANY := Lib.hid hany
                have FL9 := Lib.hid hfl
                have BF9 := Lib.hid hbf
                have BE9 := Lib.hid hbe
                have ltBF9 := hbf.lt
                clear hany hfl hbf hbe c0 c1 c2 c3 c4 c5 c6 m0 m1 m2 m3 m4 m5 m6
                obtain ⟨c0, c1, c2, c3, c4, c5, c6⟩ := BF9.out.cells
                by_cases hlt : k < i
                · have hgg : gk - 1 < gk := by omega
                  obtain ⟨d, hd⟩ : ∃ d, f.mts[k]? = some d := ⟨_, List.getElem?_eq_getElem (by omega)⟩
                  have TD1 := Lib.hid (HP.out k d hlt hd).1
                  have TD2 := Lib.hid (HP.out k d hlt hd).2
                  have HNX := Lib.hid (any_next (g := fun d => sameM f.pool d m) hd HANY.out)
                  have HAL := Lib.hid (fun h => any_later (g := fun d => sameM f.pool d m) hd hlt h)
                  have hI3 := HI.out.keep (w' := wr) (fun p hp => BE9.out.cell (p := p) (by omega))
                  obtain ⟨p1, o1, A3, c3', e1, hb1, hrow1, -, y1, y2, -, -, -, -⟩ := hI3.mts.at_ hd
                  injection e1 with e1
                  injection e1 with e2 e3 e4
                  subst e2 e3
                  have hwk2 : IntKind.i64.wrap (k : Int) = k := IntWalk.i64_in _ (by omega)
                  have hlk : (k : Int) < f.mts.length := by omega
                  have hpw : p0 < w.heap.size := by omega
                  have hsz9 : w.heap.size ≤ wr.heap.size := by omega
                  clear hd hI3 hrow1 e4
                  cases hn : decide (textP f.pool d.nm = textP f.pool m.nm) with
                  | false =>
                    have hs1 : ((textP f.pool d.nm).toList == (textP f.pool m.nm).toList) = false := (str_beq _ _).trans hn
                    have HF := Lib.hid (show sameM f.pool d m = false by unfold sameM sameN; rw [hn]; rfl)
                    clear hn
                    go_wp2
                    refine wp_region_held_drew (S := (fun w' => FBox w.heap.size Ap cp Ai ci Af cf (some ⟨p0, o0, none⟩) cm f w' ∧ FileAt B w' (.agg #[.slice Ap f.pool.length cp, .int .i64 f.fl, .int .i64 f.this, .int .i64 f.super, .slice Ai f.ifs.length ci, .slice Af f.fds.length cf, .slice (some ⟨p0, o0, none⟩) f.mts.length cm]) f ∧ w'.cell? ⟨w.heap.size, 0, none⟩ = some (.slice Ap f.pool.length cp) ∧ w'.cell? ⟨w.heap.size, 1, none⟩ = some (.int .i64 f.fl) ∧ w'.cell? ⟨w.heap.size, 2, none⟩ = some (.int .i64 f.this) ∧ w'.cell? ⟨w.heap.size, 3, none⟩ = some (.int .i64 f.super) ∧ w'.cell? ⟨w.heap.size, 4, none⟩ = some (.slice Ai f.ifs.length ci) ∧ w'.cell? ⟨w.heap.size, 5, none⟩ = some (.slice Af f.fds.length cf) ∧ w'.cell? ⟨w.heap.size, 6, none⟩ = some (.slice (some ⟨p0, o0, none⟩) f.mts.length cm) ∧ w'.cell? ⟨p0, o0 + k * 7 + 1, none⟩ = some (.int .i64 d.nm) ∧ w'.cell? ⟨p0, o0 + k * 7 + 2, none⟩ = some (.int .i64 d.ds) ∧ w.heap.size ≤ w'.heap.size ∧ Below w.heap.size w w')) (by kernel_rfl) (⟨BF9.out.drew, FL9.out.drew, c0, c1, c2, c3, c4, c5, c6, y1, y2, hsz9, BE9.out.drew⟩) (fun hH => ?_)
                    refine wpAnyH_take (i := 0) (oi := ({ dst := some 98, op := Op.load 26 (Operand.tmp 2), type := 26, pos := "ref.go:173", after := #[], guard := none } : Oper)) (v := ?v7x0) rfl (by kernel_rfl) (by kernel_rfl) (by kernel_rfl) (fun _ _ _ h => h) (Or.inl ⟨by rfl, ?hy7x0⟩) hH ?_
                    case hy7x0 => ((intro w hSw); (try dsimp only at hSw); go_simp; try with_reducible rfl)
                    try simp only [Act.put, List.setIfInBounds_toArray, List.set_cons_zero, List.set_cons_succ]
                    refine wpAnyH_take (i := 1) (oi := ({ dst := some 99, op := Op.fieldAddr 26 (Operand.tmp 2) 6, type := 0, pos := "ref.go:173", after := #[], guard := none } : Oper)) (v := ?v7x1) rfl (by kernel_rfl) (by kernel_rfl) (by kernel_rfl) (fun _ _ _ h => h) (Or.inl ⟨by rfl, ?hy7x1⟩) hH ?_
                    case hy7x1 => ((intro w hSw); (try dsimp only at hSw); go_simp; try with_reducible rfl)
                    try simp only [Act.put, List.setIfInBounds_toArray, List.set_cons_zero, List.set_cons_succ]
                    refine wpAnyH_take (i := 2) (oi := ({ dst := some 100, op := Op.load 24 (Operand.tmp 99), type := 24, pos := "ref.go:173", after := #[{ on := 1, ground := Ground.data }], guard := none } : Oper)) (v := ?v7x2) rfl (by kernel_rfl) (by kernel_rfl) (by kernel_rfl) (fun _ _ _ h => h) (Or.inl ⟨by rfl, ?hy7x2⟩) hH ?_
                    case hy7x2 => ((intro w hSw); (try dsimp only at hSw); go_simp; try with_reducible rfl)
                    try simp only [Act.put, List.setIfInBounds_toArray, List.set_cons_zero, List.set_cons_succ]
                    refine wpAnyH_take (i := 3) (oi := ({ dst := some 101, op := Op.move (Operand.tmp 12), type := 3, pos := "ref.go:173", after := #[], guard := none } : Oper)) (v := ?v7x3) rfl (by kernel_rfl) (by kernel_rfl) (by kernel_rfl) (fun _ _ _ h => h) (Or.inl ⟨by rfl, ?hy7x3⟩) hH ?_
                    case hy7x3 => ((intro w hSw); (try dsimp only at hSw); go_simp; try with_reducible rfl)
                    try simp only [Act.put, List.setIfInBounds_toArray, List.set_cons_zero, List.set_cons_succ]
                    refine wpAnyH_take (i := 4) (oi := ({ dst := some 102, op := Op.indexAddr 24 (Operand.tmp 100) (Operand.tmp 101), type := 0, pos := "ref.go:173", after := #[{ on := 2, ground := Ground.data }, { on := 3, ground := Ground.data }], guard := none } : Oper)) (v := ?v7x4) rfl (by kernel_rfl) (by kernel_rfl) (by kernel_rfl) (fun _ _ _ h => h) (Or.inl ⟨by rfl, ?hy7x4⟩) hH ?_
                    case hy7x4 => ((intro w hSw); (try dsimp only at hSw); go_simp; try with_reducible rfl)
                    try simp only [Act.put, List.setIfInBounds_toArray, List.set_cons_zero, List.set_cons_succ]
                    refine wpAnyH_take (i := 5) (oi := ({ dst := some 103, op := Op.fieldAddr 38 (Operand.tmp 102) 1, type := 0, pos := "ref.go:173", after := #[{ on := 4, ground := Ground.data }], guard := none } : Oper)) (v := ?v7x5) rfl (by kernel_rfl) (by kernel_rfl) (by kernel_rfl) (fun _ _ _ h => h) (Or.inl ⟨by rfl, ?hy7x5⟩) hH ?_
                    case hy7x5 => ((intro w hSw); (try dsimp only at hSw); go_simp; try with_reducible rfl)
                    try simp only [Act.put, List.setIfInBounds_toArray, List.set_cons_zero, List.set_cons_succ]
                    refine wpAnyH_take (i := 6) (oi := ({ dst := some 104, op := Op.load 3 (Operand.tmp 103), type := 3, pos := "ref.go:173", after := #[{ on := 5, ground := Ground.data }], guard := none } : Oper)) (v := ?v7x6) rfl (by kernel_rfl) (by kernel_rfl) (by kernel_rfl) (fun _ _ _ h => h) (Or.inl ⟨by rfl, ?hy7x6⟩) hH ?_
                    case hy7x6 => ((intro w hSw); (try dsimp only at hSw); go_simp; try with_reducible rfl)
                    try simp only [Act.put, List.setIfInBounds_toArray, List.set_cons_zero, List.set_cons_succ]
                    refine wpAnyH_take (i := 8) (oi := ({ dst := some 106, op := Op.move (Operand.tmp 7), type := 9, pos := "ref.go:173", after := #[], guard := none } : Oper)) (v := ?v7x8) rfl (by kernel_rfl) (by kernel_rfl) (by kernel_rfl) (fun _ _ _ h => h) (Or.inl ⟨by rfl, ?hy7x8⟩) hH ?_
                    case hy7x8 => ((intro w hSw); (try dsimp only at hSw); go_simp; try with_reducible rfl)
                    try simp only [Act.put, List.setIfInBounds_toArray, List.set_cons_zero, List.set_cons_succ]
                    refine wpAnyH_ready (rs := [7]) (by kernel_rfl) (by simp) ?_
                    refine AllReadyH.cons (o := _) rfl (fun K hK => ?_) AllReadyH.nil
                    go_simp
                    go_at_call 32
                    refine (HX.out _ wr.drew hH.2.1 (by have := hH.2.2.2.2.2.2.2.2.2.2.2.1; omega) _ TD1.out).mono ?_
                    rintro e wz0 ⟨rfl, hb0⟩
                    try go_wp2_with fail
                    have hF := FBox.below hH.1 hb0 (FBox.lt hH.1)
                    have hFA := FileAt.below hH.2.1 hb0 (show B ≤ (wr.drew).heap.size by have := hH.2.2.2.2.2.2.2.2.2.2.2.1; omega)
                    have hy1 := keepc hb0 (B := w.heap.size) hpw hH.2.2.2.2.2.2.2.2.2.2.2.1 hH.2.2.2.2.2.2.2.2.2.1
                    have hy2 := keepc hb0 (B := w.heap.size) hpw hH.2.2.2.2.2.2.2.2.2.2.2.1 hH.2.2.2.2.2.2.2.2.2.2.1
                    have hss := Nat.le_trans hH.2.2.2.2.2.2.2.2.2.2.2.1 hb0.size
                    have hBE := Below.link hH.2.2.2.2.2.2.2.2.2.2.2.2 hb0
                    obtain ⟨c0', c1', c2', c3', c4', c5', c6'⟩ := hF.cells
                    refine hK.out _ _ ⟨hF, hFA, c0', c1', c2', c3', c4', c5', c6', hy1, hy2, hss, hBE⟩ (fun hH1 => ?_)
                    clear hK K hH hF hFA hy1 hy2 hss hBE c0' c1' c2' c3' c4' c5' c6' hb0
                    try simp only [Act.put, List.setIfInBounds_toArray, List.set_cons_zero, List.set_cons_succ]
                    refine wpAnyH_take (i := 9) (oi := ({ dst := some 107, op := Op.binOp BinOp.eql 9 (Operand.tmp 105) (Operand.tmp 106) 9, type := 4, pos := "ref.go:173", after := #[{ on := 7, ground := Ground.data }, { on := 8, ground := Ground.data }], guard := none } : Oper)) (v := ?v7x9) rfl (by kernel_rfl) (by kernel_rfl) (by kernel_rfl) (fun _ _ _ h => h) (Or.inl ⟨by rfl, ?hy7x9⟩) hH1 ?_
                    case hy7x9 => ((intro w hSw); (try dsimp only at hSw); go_simp; try with_reducible rfl)
                    try simp only [Act.put, List.setIfInBounds_toArray, List.set_cons_zero, List.set_cons_succ]
                    refine wpAnyH_take (i := 10) (oi := ({ dst := some 108, op := Op.move (Operand.tmp 107), type := 4, pos := "ref.go:173", after := #[{ on := 9, ground := Ground.data }, { on := 7, ground := Ground.chain }], guard := none } : Oper)) (v := ?v7x10) rfl (by kernel_rfl) (by kernel_rfl) (by kernel_rfl) (fun _ _ _ h => h) (Or.inl ⟨by rfl, ?hy7x10⟩) hH1 ?_
                    case hy7x10 => ((intro w hSw); (try dsimp only at hSw); go_simp; try with_reducible rfl)
                    try simp only [Act.put, List.setIfInBounds_toArray, List.set_cons_zero, List.set_cons_succ]
                    refine wpAnyH_take (i := 11) (oi := ({ dst := some 109, op := Op.load 26 (Operand.tmp 2), type := 26, pos := "ref.go:173", after := #[{ on := 10, ground := Ground.guard }], guard := some (10, true) } : Oper)) (v := undef) rfl (by kernel_rfl) (by kernel_rfl) (by kernel_rfl) (fun _ _ _ h => h) (Or.inr ⟨by rfl, rfl⟩) hH1 ?_
                    try simp only [Act.put, List.setIfInBounds_toArray, List.set_cons_zero, List.set_cons_succ]
                    refine wpAnyH_take (i := 12) (oi := ({ dst := some 110, op := Op.fieldAddr 26 (Operand.tmp 2) 6, type := 0, pos := "ref.go:173", after := #[{ on := 10, ground := Ground.guard }], guard := some (10, true) } : Oper)) (v := undef) rfl (by kernel_rfl) (by kernel_rfl) (by kernel_rfl) (fun _ _ _ h => h) (Or.inr ⟨by rfl, rfl⟩) hH1 ?_
                    try simp only [Act.put, List.setIfInBounds_toArray, List.set_cons_zero, List.set_cons_succ]
                    refine wpAnyH_take (i := 13) (oi := ({ dst := some 111, op := Op.load 24 (Operand.tmp 110), type := 24, pos := "ref.go:173", after := #[{ on := 12, ground := Ground.data }, { on := 10, ground := Ground.guard }], guard := some (10, true) } : Oper)) (v := undef) rfl (by kernel_rfl) (by kernel_rfl) (by kernel_rfl) (fun _ _ _ h => h) (Or.inr ⟨by rfl, rfl⟩) hH1 ?_
                    try simp only [Act.put, List.setIfInBounds_toArray, List.set_cons_zero, List.set_cons_succ]
                    refine wpAnyH_take (i := 14) (oi := ({ dst := some 112, op := Op.move (Operand.tmp 12), type := 3, pos := "ref.go:173", after := #[{ on := 10, ground := Ground.guard }], guard := some (10, true) } : Oper)) (v := undef) rfl (by kernel_rfl) (by kernel_rfl) (by kernel_rfl) (fun _ _ _ h => h) (Or.inr ⟨by rfl, rfl⟩) hH1 ?_
                    try simp only [Act.put, List.setIfInBounds_toArray, List.set_cons_zero, List.set_cons_succ]
                    refine wpAnyH_take (i := 15) (oi := ({ dst := some 113, op := Op.indexAddr 24 (Operand.tmp 111) (Operand.tmp 112), type := 0, pos := "ref.go:173", after := #[{ on := 13, ground := Ground.data }, { on := 14, ground := Ground.data }, { on := 10, ground := Ground.guard }], guard := some (10, true) } : Oper)) (v := undef) rfl (by kernel_rfl) (by kernel_rfl) (by kernel_rfl) (fun _ _ _ h => h) (Or.inr ⟨by rfl, rfl⟩) hH1 ?_
                    try simp only [Act.put, List.setIfInBounds_toArray, List.set_cons_zero, List.set_cons_succ]
                    refine wpAnyH_take (i := 16) (oi := ({ dst := some 114, op := Op.fieldAddr 38 (Operand.tmp 113) 2, type := 0, pos := "ref.go:173", after := #[{ on := 15, ground := Ground.data }, { on := 10, ground := Ground.guard }], guard := some (10, true) } : Oper)) (v := undef) rfl (by kernel_rfl) (by kernel_rfl) (by kernel_rfl) (fun _ _ _ h => h) (Or.inr ⟨by rfl, rfl⟩) hH1 ?_
                    try simp only [Act.put, List.setIfInBounds_toArray, List.set_cons_zero, List.set_cons_succ]
                    refine wpAnyH_take (i := 17) (oi := ({ dst := some 115, op := Op.load 3 (Operand.tmp 114), type := 3, pos := "ref.go:173", after := #[{ on := 16, ground := Ground.data }, { on := 10, ground := Ground.guard }], guard := some (10, true) } : Oper)) (v := undef) rfl (by kernel_rfl) (by kernel_rfl) (by kernel_rfl) (fun _ _ _ h => h) (Or.inr ⟨by rfl, rfl⟩) hH1 ?_
                    try simp only [Act.put, List.setIfInBounds_toArray, List.set_cons_zero, List.set_cons_succ]
                    refine wpAnyH_take (i := 18) (oi := ({ dst := some 116, op := Op.call { callee := Callee.value (Operand.func 32), args := #[Operand.tmp 109, Operand.tmp 115], argTypes := #[26, 3] }, type := 9, pos := "ref.go:173", after := #[{ on := 11, ground := Ground.data }, { on := 17, ground := Ground.data }, { on := 10, ground := Ground.chain }, { on := 10, ground := Ground.guard }], guard := some (10, true) } : Oper)) (v := undef) rfl (by kernel_rfl) (by kernel_rfl) (by kernel_rfl) (fun _ _ _ h => h) (Or.inr ⟨by rfl, rfl⟩) hH1 ?_
                    try simp only [Act.put, List.setIfInBounds_toArray, List.set_cons_zero, List.set_cons_succ]
                    refine wpAnyH_take (i := 19) (oi := ({ dst := some 117, op := Op.move (Operand.tmp 8), type := 9, pos := "ref.go:173", after := #[{ on := 10, ground := Ground.guard }], guard := some (10, true) } : Oper)) (v := undef) rfl (by kernel_rfl) (by kernel_rfl) (by kernel_rfl) (fun _ _ _ h => h) (Or.inr ⟨by rfl, rfl⟩) hH1 ?_
                    try simp only [Act.put, List.setIfInBounds_toArray, List.set_cons_zero, List.set_cons_succ]
                    refine wpAnyH_take (i := 20) (oi := ({ dst := some 118, op := Op.binOp BinOp.eql 9 (Operand.tmp 116) (Operand.tmp 117) 9, type := 4, pos := "ref.go:173", after := #[{ on := 18, ground := Ground.data }, { on := 19, ground := Ground.data }, { on := 10, ground := Ground.guard }], guard := some (10, true) } : Oper)) (v := undef) rfl (by kernel_rfl) (by kernel_rfl) (by kernel_rfl) (fun _ _ _ h => h) (Or.inr ⟨by rfl, rfl⟩) hH1 ?_
                    try simp only [Act.put, List.setIfInBounds_toArray, List.set_cons_zero, List.set_cons_succ]
                    refine wpAnyH_take (i := 21) (oi := ({ dst := some 119, op := Op.pick (Operand.tmp 108) (Operand.tmp 118) (Operand.const (Value.bool false)), type := 4, pos := "ref.go:173", after := #[{ on := 10, ground := Ground.data }, { on := 20, ground := Ground.data }], guard := none } : Oper)) (v := ?v7x21) rfl (by kernel_rfl) (by kernel_rfl) (by kernel_rfl) (fun _ _ _ h => h) (Or.inl ⟨by rfl, ?hy7x21⟩) hH1 ?_
                    case hy7x21 => ((intro w hSw); (try dsimp only at hSw); go_simp; try with_reducible rfl)
                    try simp only [Act.put, List.setIfInBounds_toArray, List.set_cons_zero, List.set_cons_succ]
                    refine wpAnyH_done (by kernel_rfl) ?_ _
                    have FLI := Lib.hid hH1.2.1
                    have BFI := Lib.hid hH1.1
                    have BEI := Lib.hid hH1.2.2.2.2.2.2.2.2.2.2.2.2
                    clear hH1 c0 c1 c2 c3 c4 c5 c6 y1 y2
                    go_wp2
                    go_roundg (gk - 1)
                    case measure => exact hgg
                    case rel => exact ⟨k + 1, by go_num, by omega, HNX.out.trans HF.out, FLI.out, BFI.out, BEI.out⟩
                  | true =>
                    cases hn2 : decide (textP f.pool d.ds = textP f.pool m.ds) with
                    | false =>
                      have hs1 : ((textP f.pool d.nm).toList == (textP f.pool m.nm).toList) = true := (str_beq _ _).trans hn
                      have hs2 : ((textP f.pool d.ds).toList == (textP f.pool m.ds).toList) = false := (str_beq _ _).trans hn2
                      have HF := Lib.hid (show sameM f.pool d m = false by unfold sameM sameN sameD; rw [hn, hn2]; rfl)
                      clear hn hn2
                      go_wp2
                      refine wp_region_held_drew (S := (fun w' => FBox w.heap.size Ap cp Ai ci Af cf (some ⟨p0, o0, none⟩) cm f w' ∧ FileAt B w' (.agg #[.slice Ap f.pool.length cp, .int .i64 f.fl, .int .i64 f.this, .int .i64 f.super, .slice Ai f.ifs.length ci, .slice Af f.fds.length cf, .slice (some ⟨p0, o0, none⟩) f.mts.length cm]) f ∧ w'.cell? ⟨w.heap.size, 0, none⟩ = some (.slice Ap f.pool.length cp) ∧ w'.cell? ⟨w.heap.size, 1, none⟩ = some (.int .i64 f.fl) ∧ w'.cell? ⟨w.heap.size, 2, none⟩ = some (.int .i64 f.this) ∧ w'.cell? ⟨w.heap.size, 3, none⟩ = some (.int .i64 f.super) ∧ w'.cell? ⟨w.heap.size, 4, none⟩ = some (.slice Ai f.ifs.length ci) ∧ w'.cell? ⟨w.heap.size, 5, none⟩ = some (.slice Af f.fds.length cf) ∧ w'.cell? ⟨w.heap.size, 6, none⟩ = some (.slice (some ⟨p0, o0, none⟩) f.mts.length cm) ∧ w'.cell? ⟨p0, o0 + k * 7 + 1, none⟩ = some (.int .i64 d.nm) ∧ w'.cell? ⟨p0, o0 + k * 7 + 2, none⟩ = some (.int .i64 d.ds) ∧ w.heap.size ≤ w'.heap.size ∧ Below w.heap.size w w')) (by kernel_rfl) (⟨BF9.out.drew, FL9.out.drew, c0, c1, c2, c3, c4, c5, c6, y1, y2, hsz9, BE9.out.drew⟩) (fun hH => ?_)
                      refine wpAnyH_take (i := 0) (oi := ({ dst := some 98, op := Op.load 26 (Operand.tmp 2), type := 26, pos := "ref.go:173", after := #[], guard := none } : Oper)) (v := ?v8x0) rfl (by kernel_rfl) (by kernel_rfl) (by kernel_rfl) (fun _ _ _ h => h) (Or.inl ⟨by rfl, ?hy8x0⟩) hH ?_
                      case hy8x0 => ((intro w hSw); (try dsimp only at hSw); go_simp; try with_reducible rfl)
                      try simp only [Act.put, List.setIfInBounds_toArray, List.set_cons_zero, List.set_cons_succ]
                      refine wpAnyH_take (i := 1) (oi := ({ dst := some 99, op := Op.fieldAddr 26 (Operand.tmp 2) 6, type := 0, pos := "ref.go:173", after := #[], guard := none } : Oper)) (v := ?v8x1) rfl (by kernel_rfl) (by kernel_rfl) (by kernel_rfl) (fun _ _ _ h => h) (Or.inl ⟨by rfl, ?hy8x1⟩) hH ?_
                      case hy8x1 => ((intro w hSw); (try dsimp only at hSw); go_simp; try with_reducible rfl)
                      try simp only [Act.put, List.setIfInBounds_toArray, List.set_cons_zero, List.set_cons_succ]
                      refine wpAnyH_take (i := 2) (oi := ({ dst := some 100, op := Op.load 24 (Operand.tmp 99), type := 24, pos := "ref.go:173", after := #[{ on := 1, ground := Ground.data }], guard := none } : Oper)) (v := ?v8x2) rfl (by kernel_rfl) (by kernel_rfl) (by kernel_rfl) (fun _ _ _ h => h) (Or.inl ⟨by rfl, ?hy8x2⟩) hH ?_
                      case hy8x2 => ((intro w hSw); (try dsimp only at hSw); go_simp; try with_reducible rfl)
                      try simp only [Act.put, List.setIfInBounds_toArray, List.set_cons_zero, List.set_cons_succ]
                      refine wpAnyH_take (i := 3) (oi := ({ dst := some 101, op := Op.move (Operand.tmp 12), type := 3, pos := "ref.go:173", after := #[], guard := none } : Oper)) (v := ?v8x3) rfl (by kernel_rfl) (by kernel_rfl) (by kernel_rfl) (fun _ _ _ h => h) (Or.inl ⟨by rfl, ?hy8x3⟩) hH ?_
                      case hy8x3 => ((intro w hSw); (try dsimp only at hSw); go_simp; try with_reducible rfl)
                      try simp only [Act.put, List.setIfInBounds_toArray, List.set_cons_zero, List.set_cons_succ]
                      refine wpAnyH_take (i := 4) (oi := ({ dst := some 102, op := Op.indexAddr 24 (Operand.tmp 100) (Operand.tmp 101), type := 0, pos := "ref.go:173", after := #[{ on := 2, ground := Ground.data }, { on := 3, ground := Ground.data }], guard := none } : Oper)) (v := ?v8x4) rfl (by kernel_rfl) (by kernel_rfl) (by kernel_rfl) (fun _ _ _ h => h) (Or.inl ⟨by rfl, ?hy8x4⟩) hH ?_
                      case hy8x4 => ((intro w hSw); (try dsimp only at hSw); go_simp; try with_reducible rfl)
                      try simp only [Act.put, List.setIfInBounds_toArray, List.set_cons_zero, List.set_cons_succ]
                      refine wpAnyH_take (i := 5) (oi := ({ dst := some 103, op := Op.fieldAddr 38 (Operand.tmp 102) 1, type := 0, pos := "ref.go:173", after := #[{ on := 4, ground := Ground.data }], guard := none } : Oper)) (v := ?v8x5) rfl (by kernel_rfl) (by kernel_rfl) (by kernel_rfl) (fun _ _ _ h => h) (Or.inl ⟨by rfl, ?hy8x5⟩) hH ?_
                      case hy8x5 => ((intro w hSw); (try dsimp only at hSw); go_simp; try with_reducible rfl)
                      try simp only [Act.put, List.setIfInBounds_toArray, List.set_cons_zero, List.set_cons_succ]
                      refine wpAnyH_take (i := 6) (oi := ({ dst := some 104, op := Op.load 3 (Operand.tmp 103), type := 3, pos := "ref.go:173", after := #[{ on := 5, ground := Ground.data }], guard := none } : Oper)) (v := ?v8x6) rfl (by kernel_rfl) (by kernel_rfl) (by kernel_rfl) (fun _ _ _ h => h) (Or.inl ⟨by rfl, ?hy8x6⟩) hH ?_
                      case hy8x6 => ((intro w hSw); (try dsimp only at hSw); go_simp; try with_reducible rfl)
                      try simp only [Act.put, List.setIfInBounds_toArray, List.set_cons_zero, List.set_cons_succ]
                      refine wpAnyH_take (i := 8) (oi := ({ dst := some 106, op := Op.move (Operand.tmp 7), type := 9, pos := "ref.go:173", after := #[], guard := none } : Oper)) (v := ?v8x8) rfl (by kernel_rfl) (by kernel_rfl) (by kernel_rfl) (fun _ _ _ h => h) (Or.inl ⟨by rfl, ?hy8x8⟩) hH ?_
                      case hy8x8 => ((intro w hSw); (try dsimp only at hSw); go_simp; try with_reducible rfl)
                      try simp only [Act.put, List.setIfInBounds_toArray, List.set_cons_zero, List.set_cons_succ]
                      refine wpAnyH_ready (rs := [7]) (by kernel_rfl) (by simp) ?_
                      refine AllReadyH.cons (o := _) rfl (fun K hK => ?_) AllReadyH.nil
                      go_simp
                      go_at_call 32
                      refine (HX.out _ wr.drew hH.2.1 (by have := hH.2.2.2.2.2.2.2.2.2.2.2.1; omega) _ TD1.out).mono ?_
                      rintro e wz0 ⟨rfl, hb0⟩
                      try go_wp2_with fail
                      have hF := FBox.below hH.1 hb0 (FBox.lt hH.1)
                      have hFA := FileAt.below hH.2.1 hb0 (show B ≤ (wr.drew).heap.size by have := hH.2.2.2.2.2.2.2.2.2.2.2.1; omega)
                      have hy1 := keepc hb0 (B := w.heap.size) hpw hH.2.2.2.2.2.2.2.2.2.2.2.1 hH.2.2.2.2.2.2.2.2.2.1
                      have hy2 := keepc hb0 (B := w.heap.size) hpw hH.2.2.2.2.2.2.2.2.2.2.2.1 hH.2.2.2.2.2.2.2.2.2.2.1
                      have hss := Nat.le_trans hH.2.2.2.2.2.2.2.2.2.2.2.1 hb0.size
                      have hBE := Below.link hH.2.2.2.2.2.2.2.2.2.2.2.2 hb0
                      obtain ⟨c0', c1', c2', c3', c4', c5', c6'⟩ := hF.cells
                      refine hK.out _ _ ⟨hF, hFA, c0', c1', c2', c3', c4', c5', c6', hy1, hy2, hss, hBE⟩ (fun hH1 => ?_)
                      clear hK K hH hF hFA hy1 hy2 hss hBE c0' c1' c2' c3' c4' c5' c6' hb0
                      try simp only [Act.put, List.setIfInBounds_toArray, List.set_cons_zero, List.set_cons_succ]
                      refine wpAnyH_take (i := 9) (oi := ({ dst := some 107, op := Op.binOp BinOp.eql 9 (Operand.tmp 105) (Operand.tmp 106) 9, type := 4, pos := "ref.go:173", after := #[{ on := 7, ground := Ground.data }, { on := 8, ground := Ground.data }], guard := none } : Oper)) (v := ?v8x9) rfl (by kernel_rfl) (by kernel_rfl) (by kernel_rfl) (fun _ _ _ h => h) (Or.inl ⟨by rfl, ?hy8x9⟩) hH1 ?_
                      case hy8x9 => ((intro w hSw); (try dsimp only at hSw); go_simp; try with_reducible rfl)
                      try simp only [Act.put, List.setIfInBounds_toArray, List.set_cons_zero, List.set_cons_succ]
                      refine wpAnyH_take (i := 10) (oi := ({ dst := some 108, op := Op.move (Operand.tmp 107), type := 4, pos := "ref.go:173", after := #[{ on := 9, ground := Ground.data }, { on := 7, ground := Ground.chain }], guard := none } : Oper)) (v := ?v8x10) rfl (by kernel_rfl) (by kernel_rfl) (by kernel_rfl) (fun _ _ _ h => h) (Or.inl ⟨by rfl, ?hy8x10⟩) hH1 ?_
                      case hy8x10 => ((intro w hSw); (try dsimp only at hSw); go_simp; try with_reducible rfl)
                      try simp only [Act.put, List.setIfInBounds_toArray, List.set_cons_zero, List.set_cons_succ]
                      refine wpAnyH_take (i := 11) (oi := ({ dst := some 109, op := Op.load 26 (Operand.tmp 2), type := 26, pos := "ref.go:173", after := #[{ on := 10, ground := Ground.guard }], guard := some (10, true) } : Oper)) (v := ?v8x11) rfl (by kernel_rfl) (by kernel_rfl) (by kernel_rfl) (fun _ _ _ h => h) (Or.inl ⟨by rfl, ?hy8x11⟩) hH1 ?_
                      case hy8x11 => ((intro w hSw); (try dsimp only at hSw); go_simp; try with_reducible rfl)
                      try simp only [Act.put, List.setIfInBounds_toArray, List.set_cons_zero, List.set_cons_succ]
                      refine wpAnyH_take (i := 12) (oi := ({ dst := some 110, op := Op.fieldAddr 26 (Operand.tmp 2) 6, type := 0, pos := "ref.go:173", after := #[{ on := 10, ground := Ground.guard }], guard := some (10, true) } : Oper)) (v := ?v8x12) rfl (by kernel_rfl) (by kernel_rfl) (by kernel_rfl) (fun _ _ _ h => h) (Or.inl ⟨by rfl, ?hy8x12⟩) hH1 ?_
                      case hy8x12 => ((intro w hSw); (try dsimp only at hSw); go_simp; try with_reducible rfl)
                      try simp only [Act.put, List.setIfInBounds_toArray, List.set_cons_zero, List.set_cons_succ]
                      refine wpAnyH_take (i := 13) (oi := ({ dst := some 111, op := Op.load 24 (Operand.tmp 110), type := 24, pos := "ref.go:173", after := #[{ on := 12, ground := Ground.data }, { on := 10, ground := Ground.guard }], guard := some (10, true) } : Oper)) (v := ?v8x13) rfl (by kernel_rfl) (by kernel_rfl) (by kernel_rfl) (fun _ _ _ h => h) (Or.inl ⟨by rfl, ?hy8x13⟩) hH1 ?_
                      case hy8x13 => ((intro w hSw); (try dsimp only at hSw); go_simp; try with_reducible rfl)
                      try simp only [Act.put, List.setIfInBounds_toArray, List.set_cons_zero, List.set_cons_succ]
                      refine wpAnyH_take (i := 14) (oi := ({ dst := some 112, op := Op.move (Operand.tmp 12), type := 3, pos := "ref.go:173", after := #[{ on := 10, ground := Ground.guard }], guard := some (10, true) } : Oper)) (v := ?v8x14) rfl (by kernel_rfl) (by kernel_rfl) (by kernel_rfl) (fun _ _ _ h => h) (Or.inl ⟨by rfl, ?hy8x14⟩) hH1 ?_
                      case hy8x14 => ((intro w hSw); (try dsimp only at hSw); go_simp; try with_reducible rfl)
                      try simp only [Act.put, List.setIfInBounds_toArray, List.set_cons_zero, List.set_cons_succ]
                      refine wpAnyH_take (i := 15) (oi := ({ dst := some 113, op := Op.indexAddr 24 (Operand.tmp 111) (Operand.tmp 112), type := 0, pos := "ref.go:173", after := #[{ on := 13, ground := Ground.data }, { on := 14, ground := Ground.data }, { on := 10, ground := Ground.guard }], guard := some (10, true) } : Oper)) (v := ?v8x15) rfl (by kernel_rfl) (by kernel_rfl) (by kernel_rfl) (fun _ _ _ h => h) (Or.inl ⟨by rfl, ?hy8x15⟩) hH1 ?_
                      case hy8x15 => ((intro w hSw); (try dsimp only at hSw); go_simp; try with_reducible rfl)
                      try simp only [Act.put, List.setIfInBounds_toArray, List.set_cons_zero, List.set_cons_succ]
                      refine wpAnyH_take (i := 16) (oi := ({ dst := some 114, op := Op.fieldAddr 38 (Operand.tmp 113) 2, type := 0, pos := "ref.go:173", after := #[{ on := 15, ground := Ground.data }, { on := 10, ground := Ground.guard }], guard := some (10, true) } : Oper)) (v := ?v8x16) rfl (by kernel_rfl) (by kernel_rfl) (by kernel_rfl) (fun _ _ _ h => h) (Or.inl ⟨by rfl, ?hy8x16⟩) hH1 ?_
                      case hy8x16 => ((intro w hSw); (try dsimp only at hSw); go_simp; try with_reducible rfl)
                      try simp only [Act.put, List.setIfInBounds_toArray, List.set_cons_zero, List.set_cons_succ]
                      refine wpAnyH_take (i := 17) (oi := ({ dst := some 115, op := Op.load 3 (Operand.tmp 114), type := 3, pos := "ref.go:173", after := #[{ on := 16, ground := Ground.data }, { on := 10, ground := Ground.guard }], guard := some (10, true) } : Oper)) (v := ?v8x17) rfl (by kernel_rfl) (by kernel_rfl) (by kernel_rfl) (fun _ _ _ h => h) (Or.inl ⟨by rfl, ?hy8x17⟩) hH1 ?_
                      case hy8x17 => ((intro w hSw); (try dsimp only at hSw); go_simp; try with_reducible rfl)
                      try simp only [Act.put, List.setIfInBounds_toArray, List.set_cons_zero, List.set_cons_succ]
                      refine wpAnyH_take (i := 19) (oi := ({ dst := some 117, op := Op.move (Operand.tmp 8), type := 9, pos := "ref.go:173", after := #[{ on := 10, ground := Ground.guard }], guard := some (10, true) } : Oper)) (v := ?v8x19) rfl (by kernel_rfl) (by kernel_rfl) (by kernel_rfl) (fun _ _ _ h => h) (Or.inl ⟨by rfl, ?hy8x19⟩) hH1 ?_
                      case hy8x19 => ((intro w hSw); (try dsimp only at hSw); go_simp; try with_reducible rfl)
                      try simp only [Act.put, List.setIfInBounds_toArray, List.set_cons_zero, List.set_cons_succ]
                      refine wpAnyH_ready (rs := [18]) (by kernel_rfl) (by simp) ?_
                      refine AllReadyH.cons (o := _) rfl (fun K hK => ?_) AllReadyH.nil
                      go_simp
                      go_at_call 32
                      refine (HX.out _ wz0 hH1.2.1 (by have := hH1.2.2.2.2.2.2.2.2.2.2.2.1; omega) _ TD2.out).mono ?_
                      rintro e wz1 ⟨rfl, hb1⟩
                      try go_wp2_with fail
                      have hF := FBox.below hH1.1 hb1 (FBox.lt hH1.1)
                      have hFA := FileAt.below hH1.2.1 hb1 (show B ≤ (wz0).heap.size by have := hH1.2.2.2.2.2.2.2.2.2.2.2.1; omega)
                      have hy1 := keepc hb1 (B := w.heap.size) hpw hH1.2.2.2.2.2.2.2.2.2.2.2.1 hH1.2.2.2.2.2.2.2.2.2.1
                      have hy2 := keepc hb1 (B := w.heap.size) hpw hH1.2.2.2.2.2.2.2.2.2.2.2.1 hH1.2.2.2.2.2.2.2.2.2.2.1
                      have hss := Nat.le_trans hH1.2.2.2.2.2.2.2.2.2.2.2.1 hb1.size
                      have hBE := Below.link hH1.2.2.2.2.2.2.2.2.2.2.2.2 hb1
                      obtain ⟨c0', c1', c2', c3', c4', c5', c6'⟩ := hF.cells
                      refine hK.out _ _ ⟨hF, hFA, c0', c1', c2', c3', c4', c5', c6', hy1, hy2, hss, hBE⟩ (fun hH2 => ?_)
                      clear hK K hH1 hF hFA hy1 hy2 hss hBE c0' c1' c2' c3' c4' c5' c6' hb1
                      try simp only [Act.put, List.setIfInBounds_toArray, List.set_cons_zero, List.set_cons_succ]
                      refine wpAnyH_take (i := 20) (oi := ({ dst := some 118, op := Op.binOp BinOp.eql 9 (Operand.tmp 116) (Operand.tmp 117) 9, type := 4, pos := "ref.go:173", after := #[{ on := 18, ground := Ground.data }, { on := 19, ground := Ground.data }, { on := 10, ground := Ground.guard }], guard := some (10, true) } : Oper)) (v := ?v8x20) rfl (by kernel_rfl) (by kernel_rfl) (by kernel_rfl) (fun _ _ _ h => h) (Or.inl ⟨by rfl, ?hy8x20⟩) hH2 ?_
                      case hy8x20 => ((intro w hSw); (try dsimp only at hSw); go_simp; try with_reducible rfl)
                      try simp only [Act.put, List.setIfInBounds_toArray, List.set_cons_zero, List.set_cons_succ]
                      refine wpAnyH_take (i := 21) (oi := ({ dst := some 119, op := Op.pick (Operand.tmp 108) (Operand.tmp 118) (Operand.const (Value.bool false)), type := 4, pos := "ref.go:173", after := #[{ on := 10, ground := Ground.data }, { on := 20, ground := Ground.data }], guard := none } : Oper)) (v := ?v8x21) rfl (by kernel_rfl) (by kernel_rfl) (by kernel_rfl) (fun _ _ _ h => h) (Or.inl ⟨by rfl, ?hy8x21⟩) hH2 ?_
                      case hy8x21 => ((intro w hSw); (try dsimp only at hSw); go_simp; try with_reducible rfl)
                      try simp only [Act.put, List.setIfInBounds_toArray, List.set_cons_zero, List.set_cons_succ]
                      refine wpAnyH_done (by kernel_rfl) ?_ _
                      have FLI := Lib.hid hH2.2.1
                      have BFI := Lib.hid hH2.1
                      have BEI := Lib.hid hH2.2.2.2.2.2.2.2.2.2.2.2.2
                      clear hH2 c0 c1 c2 c3 c4 c5 c6 y1 y2
                      go_wp2
                      go_roundg (gk - 1)
                      case measure => exact hgg
                      case rel => exact ⟨k + 1, by go_num, by omega, HNX.out.trans HF.out, FLI.out, BFI.out, BEI.out⟩
                    | true =>
                      have hs1 : ((textP f.pool d.nm).toList == (textP f.pool m.nm).toList) = true := (str_beq _ _).trans hn
                      have hs2 : ((textP f.pool d.ds).toList == (textP f.pool m.ds).toList) = true := (str_beq _ _).trans hn2
                      have HF := Lib.hid (show sameM f.pool d m = true by unfold sameM sameN sameD; rw [hn, hn2]; rfl)
                      have HRR := Lib.hid (show R = 15 by rw [HRL.out, HAL.out HF.out]; rfl)
                      clear hn hn2
                      go_wp2
                      refine wp_region_held_drew (S := (fun w' => FBox w.heap.size Ap cp Ai ci Af cf (some ⟨p0, o0, none⟩) cm f w' ∧ FileAt B w' (.agg #[.slice Ap f.pool.length cp, .int .i64 f.fl, .int .i64 f.this, .int .i64 f.super, .slice Ai f.ifs.length ci, .slice Af f.fds.length cf, .slice (some ⟨p0, o0, none⟩) f.mts.length cm]) f ∧ w'.cell? ⟨w.heap.size, 0, none⟩ = some (.slice Ap f.pool.length cp) ∧ w'.cell? ⟨w.heap.size, 1, none⟩ = some (.int .i64 f.fl) ∧ w'.cell? ⟨w.heap.size, 2, none⟩ = some (.int .i64 f.this) ∧ w'.cell? ⟨w.heap.size, 3, none⟩ = some (.int .i64 f.super) ∧ w'.cell? ⟨w.heap.size, 4, none⟩ = some (.slice Ai f.ifs.length ci) ∧ w'.cell? ⟨w.heap.size, 5, none⟩ = some (.slice Af f.fds.length cf) ∧ w'.cell? ⟨w.heap.size, 6, none⟩ = some (.slice (some ⟨p0, o0, none⟩) f.mts.length cm) ∧ w'.cell? ⟨p0, o0 + k * 7 + 1, none⟩ = some (.int .i64 d.nm) ∧ w'.cell? ⟨p0, o0 + k * 7 + 2, none⟩ = some (.int .i64 d.ds) ∧ w.heap.size ≤ w'.heap.size ∧ Below w.heap.size w w')) (by kernel_rfl) (⟨BF9.out.drew, FL9.out.drew, c0, c1, c2, c3, c4, c5, c6, y1, y2, hsz9, BE9.out.drew⟩) (fun hH => ?_)
                      refine wpAnyH_take (i := 0) (oi := ({ dst := some 98, op := Op.load 26 (Operand.tmp 2), type := 26, pos := "ref.go:173", after := #[], guard := none } : Oper)) (v := ?v9x0) rfl (by kernel_rfl) (by kernel_rfl) (by kernel_rfl) (fun _ _ _ h => h) (Or.inl ⟨by rfl, ?hy9x0⟩) hH ?_
                      case hy9x0 => ((intro w hSw); (try dsimp only at hSw); go_simp; try with_reducible rfl)
                      try simp only [Act.put, List.setIfInBounds_toArray, List.set_cons_zero, List.set_cons_succ]
                      refine wpAnyH_take (i := 1) (oi := ({ dst := some 99, op := Op.fieldAddr 26 (Operand.tmp 2) 6, type := 0, pos := "ref.go:173", after := #[], guard := none } : Oper)) (v := ?v9x1) rfl (by kernel_rfl) (by kernel_rfl) (by kernel_rfl) (fun _ _ _ h => h) (Or.inl ⟨by rfl, ?hy9x1⟩) hH ?_
                      case hy9x1 => ((intro w hSw); (try dsimp only at hSw); go_simp; try with_reducible rfl)
                      try simp only [Act.put, List.setIfInBounds_toArray, List.set_cons_zero, List.set_cons_succ]
                      refine wpAnyH_take (i := 2) (oi := ({ dst := some 100, op := Op.load 24 (Operand.tmp 99), type := 24, pos := "ref.go:173", after := #[{ on := 1, ground := Ground.data }], guard := none } : Oper)) (v := ?v9x2) rfl (by kernel_rfl) (by kernel_rfl) (by kernel_rfl) (fun _ _ _ h => h) (Or.inl ⟨by rfl, ?hy9x2⟩) hH ?_
                      case hy9x2 => ((intro w hSw); (try dsimp only at hSw); go_simp; try with_reducible rfl)
                      try simp only [Act.put, List.setIfInBounds_toArray, List.set_cons_zero, List.set_cons_succ]
                      refine wpAnyH_take (i := 3) (oi := ({ dst := some 101, op := Op.move (Operand.tmp 12), type := 3, pos := "ref.go:173", after := #[], guard := none } : Oper)) (v := ?v9x3) rfl (by kernel_rfl) (by kernel_rfl) (by kernel_rfl) (fun _ _ _ h => h) (Or.inl ⟨by rfl, ?hy9x3⟩) hH ?_
                      case hy9x3 => ((intro w hSw); (try dsimp only at hSw); go_simp; try with_reducible rfl)
                      try simp only [Act.put, List.setIfInBounds_toArray, List.set_cons_zero, List.set_cons_succ]
                      refine wpAnyH_take (i := 4) (oi := ({ dst := some 102, op := Op.indexAddr 24 (Operand.tmp 100) (Operand.tmp 101), type := 0, pos := "ref.go:173", after := #[{ on := 2, ground := Ground.data }, { on := 3, ground := Ground.data }], guard := none } : Oper)) (v := ?v9x4) rfl (by kernel_rfl) (by kernel_rfl) (by kernel_rfl) (fun _ _ _ h => h) (Or.inl ⟨by rfl, ?hy9x4⟩) hH ?_
                      case hy9x4 => ((intro w hSw); (try dsimp only at hSw); go_simp; try with_reducible rfl)
                      try simp only [Act.put, List.setIfInBounds_toArray, List.set_cons_zero, List.set_cons_succ]
                      refine wpAnyH_take (i := 5) (oi := ({ dst := some 103, op := Op.fieldAddr 38 (Operand.tmp 102) 1, type := 0, pos := "ref.go:173", after := #[{ on := 4, ground := Ground.data }], guard := none } : Oper)) (v := ?v9x5) rfl (by kernel_rfl) (by kernel_rfl) (by kernel_rfl) (fun _ _ _ h => h) (Or.inl ⟨by rfl, ?hy9x5⟩) hH ?_
                      case hy9x5 => ((intro w hSw); (try dsimp only at hSw); go_simp; try with_reducible rfl)
                      try simp only [Act.put, List.setIfInBounds_toArray, List.set_cons_zero, List.set_cons_succ]
                      refine wpAnyH_take (i := 6) (oi := ({ dst := some 104, op := Op.load 3 (Operand.tmp 103), type := 3, pos := "ref.go:173", after := #[{ on := 5, ground := Ground.data }], guard := none } : Oper)) (v := ?v9x6) rfl (by kernel_rfl) (by kernel_rfl) (by kernel_rfl) (fun _ _ _ h => h) (Or.inl ⟨by rfl, ?hy9x6⟩) hH ?_
                      case hy9x6 => ((intro w hSw); (try dsimp only at hSw); go_simp; try with_reducible rfl)
                      try simp only [Act.put, List.setIfInBounds_toArray, List.set_cons_zero, List.set_cons_succ]
                      refine wpAnyH_take (i := 8) (oi := ({ dst := some 106, op := Op.move (Operand.tmp 7), type := 9, pos := "ref.go:173", after := #[], guard := none } : Oper)) (v := ?v9x8) rfl (by kernel_rfl) (by kernel_rfl) (by kernel_rfl) (fun _ _ _ h => h) (Or.inl ⟨by rfl, ?hy9x8⟩) hH ?_
                      case hy9x8 => ((intro w hSw); (try dsimp only at hSw); go_simp; try with_reducible rfl)
                      try simp only [Act.put, List.setIfInBounds_toArray, List.set_cons_zero, List.set_cons_succ]
                      refine wpAnyH_ready (rs := [7]) (by kernel_rfl) (by simp) ?_
                      refine AllReadyH.cons (o := _) rfl (fun K hK => ?_) AllReadyH.nil
                      go_simp
                      go_at_call 32
                      refine (HX.out _ wr.drew hH.2.1 (by have := hH.2.2.2.2.2.2.2.2.2.2.2.1; omega) _ TD1.out).mono ?_
                      rintro e wz0 ⟨rfl, hb0⟩
                      try go_wp2_with fail
                      have hF := FBox.below hH.1 hb0 (FBox.lt hH.1)
                      have hFA := FileAt.below hH.2.1 hb0 (show B ≤ (wr.drew).heap.size by have := hH.2.2.2.2.2.2.2.2.2.2.2.1; omega)
                      have hy1 := keepc hb0 (B := w.heap.size) hpw hH.2.2.2.2.2.2.2.2.2.2.2.1 hH.2.2.2.2.2.2.2.2.2.1
                      have hy2 := keepc hb0 (B := w.heap.size) hpw hH.2.2.2.2.2.2.2.2.2.2.2.1 hH.2.2.2.2.2.2.2.2.2.2.1
                      have hss := Nat.le_trans hH.2.2.2.2.2.2.2.2.2.2.2.1 hb0.size
                      have hBE := Below.link hH.2.2.2.2.2.2.2.2.2.2.2.2 hb0
                      obtain ⟨c0', c1', c2', c3', c4', c5', c6'⟩ := hF.cells
                      refine hK.out _ _ ⟨hF, hFA, c0', c1', c2', c3', c4', c5', c6', hy1, hy2, hss, hBE⟩ (fun hH1 => ?_)
                      clear hK K hH hF hFA hy1 hy2 hss hBE c0' c1' c2' c3' c4' c5' c6' hb0
                      try simp only [Act.put, List.setIfInBounds_toArray, List.set_cons_zero, List.set_cons_succ]
                      refine wpAnyH_take (i := 9) (oi := ({ dst := some 107, op := Op.binOp BinOp.eql 9 (Operand.tmp 105) (Operand.tmp 106) 9, type := 4, pos := "ref.go:173", after := #[{ on := 7, ground := Ground.data }, { on := 8, ground := Ground.data }], guard := none } : Oper)) (v := ?v9x9) rfl (by kernel_rfl) (by kernel_rfl) (by kernel_rfl) (fun _ _ _ h => h) (Or.inl ⟨by rfl, ?hy9x9⟩) hH1 ?_
                      case hy9x9 => ((intro w hSw); (try dsimp only at hSw); go_simp; try with_reducible rfl)
                      try simp only [Act.put, List.setIfInBounds_toArray, List.set_cons_zero, List.set_cons_succ]
                      refine wpAnyH_take (i := 10) (oi := ({ dst := some 108, op := Op.move (Operand.tmp 107), type := 4, pos := "ref.go:173", after := #[{ on := 9, ground := Ground.data }, { on := 7, ground := Ground.chain }], guard := none } : Oper)) (v := ?v9x10) rfl (by kernel_rfl) (by kernel_rfl) (by kernel_rfl) (fun _ _ _ h => h) (Or.inl ⟨by rfl, ?hy9x10⟩) hH1 ?_
                      case hy9x10 => ((intro w hSw); (try dsimp only at hSw); go_simp; try with_reducible rfl)
                      try simp only [Act.put, List.setIfInBounds_toArray, List.set_cons_zero, List.set_cons_succ]
                      refine wpAnyH_take (i := 11) (oi := ({ dst := some 109, op := Op.load 26 (Operand.tmp 2), type := 26, pos := "ref.go:173", after := #[{ on := 10, ground := Ground.guard }], guard := some (10, true) } : Oper)) (v := ?v9x11) rfl (by kernel_rfl) (by kernel_rfl) (by kernel_rfl) (fun _ _ _ h => h) (Or.inl ⟨by rfl, ?hy9x11⟩) hH1 ?_
                      case hy9x11 => ((intro w hSw); (try dsimp only at hSw); go_simp; try with_reducible rfl)
                      try simp only [Act.put, List.setIfInBounds_toArray, List.set_cons_zero, List.set_cons_succ]
                      refine wpAnyH_take (i := 12) (oi := ({ dst := some 110, op := Op.fieldAddr 26 (Operand.tmp 2) 6, type := 0, pos := "ref.go:173", after := #[{ on := 10, ground := Ground.guard }], guard := some (10, true) } : Oper)) (v := ?v9x12) rfl (by kernel_rfl) (by kernel_rfl) (by kernel_rfl) (fun _ _ _ h => h) (Or.inl ⟨by rfl, ?hy9x12⟩) hH1 ?_
                      case hy9x12 => ((intro w hSw); (try dsimp only at hSw); go_simp; try with_reducible rfl)
                      try simp only [Act.put, List.setIfInBounds_toArray, List.set_cons_zero, List.set_cons_succ]
                      refine wpAnyH_take (i := 13) (oi := ({ dst := some 111, op := Op.load 24 (Operand.tmp 110), type := 24, pos := "ref.go:173", after := #[{ on := 12, ground := Ground.data }, { on := 10, ground := Ground.guard }], guard := some (10, true) } : Oper)) (v := ?v9x13) rfl (by kernel_rfl) (by kernel_rfl) (by kernel_rfl) (fun _ _ _ h => h) (Or.inl ⟨by rfl, ?hy9x13⟩) hH1 ?_
                      case hy9x13 => ((intro w hSw); (try dsimp only at hSw); go_simp; try with_reducible rfl)
                      try simp only [Act.put, List.setIfInBounds_toArray, List.set_cons_zero, List.set_cons_succ]
                      refine wpAnyH_take (i := 14) (oi := ({ dst := some 112, op := Op.move (Operand.tmp 12), type := 3, pos := "ref.go:173", after := #[{ on := 10, ground := Ground.guard }], guard := some (10, true) } : Oper)) (v := ?v9x14) rfl (by kernel_rfl) (by kernel_rfl) (by kernel_rfl) (fun _ _ _ h => h) (Or.inl ⟨by rfl, ?hy9x14⟩) hH1 ?_
                      case hy9x14 => ((intro w hSw); (try dsimp only at hSw); go_simp; try with_reducible rfl)
                      try simp only [Act.put, List.setIfInBounds_toArray, List.set_cons_zero, List.set_cons_succ]
                      refine wpAnyH_take (i := 15) (oi := ({ dst := some 113, op := Op.indexAddr 24 (Operand.tmp 111) (Operand.tmp 112), type := 0, pos := "ref.go:173", after := #[{ on := 13, ground := Ground.data }, { on := 14, ground := Ground.data }, { on := 10, ground := Ground.guard }], guard := some (10, true) } : Oper)) (v := ?v9x15) rfl (by kernel_rfl) (by kernel_rfl) (by kernel_rfl) (fun _ _ _ h => h) (Or.inl ⟨by rfl, ?hy9x15⟩) hH1 ?_
                      case hy9x15 => ((intro w hSw); (try dsimp only at hSw); go_simp; try with_reducible rfl)
                      try simp only [Act.put, List.setIfInBounds_toArray, List.set_cons_zero, List.set_cons_succ]
                      refine wpAnyH_take (i := 16) (oi := ({ dst := some 114, op := Op.fieldAddr 38 (Operand.tmp 113) 2, type := 0, pos := "ref.go:173", after := #[{ on := 15, ground := Ground.data }, { on := 10, ground := Ground.guard }], guard := some (10, true) } : Oper)) (v := ?v9x16) rfl (by kernel_rfl) (by kernel_rfl) (by kernel_rfl) (fun _ _ _ h => h) (Or.inl ⟨by rfl, ?hy9x16⟩) hH1 ?_
                      case hy9x16 => ((intro w hSw); (try dsimp only at hSw); go_simp; try with_reducible rfl)
                      try simp only [Act.put, List.setIfInBounds_toArray, List.set_cons_zero, List.set_cons_succ]
                      refine wpAnyH_take (i := 17) (oi := ({ dst := some 115, op := Op.load 3 (Operand.tmp 114), type := 3, pos := "ref.go:173", after := #[{ on := 16, ground := Ground.data }, { on := 10, ground := Ground.guard }], guard := some (10, true) } : Oper)) (v := ?v9x17) rfl (by kernel_rfl) (by kernel_rfl) (by kernel_rfl) (fun _ _ _ h => h) (Or.inl ⟨by rfl, ?hy9x17⟩) hH1 ?_
                      case hy9x17 => ((intro w hSw); (try dsimp only at hSw); go_simp; try with_reducible rfl)
                      try simp only [Act.put, List.setIfInBounds_toArray, List.set_cons_zero, List.set_cons_succ]
                      refine wpAnyH_take (i := 19) (oi := ({ dst := some 117, op := Op.move (Operand.tmp 8), type := 9, pos := "ref.go:173", after := #[{ on := 10, ground := Ground.guard }], guard := some (10, true) } : Oper)) (v := ?v9x19) rfl (by kernel_rfl) (by kernel_rfl) (by kernel_rfl) (fun _ _ _ h => h) (Or.inl ⟨by rfl, ?hy9x19⟩) hH1 ?_
                      case hy9x19 => ((intro w hSw); (try dsimp only at hSw); go_simp; try with_reducible rfl)
                      try simp only [Act.put, List.setIfInBounds_toArray, List.set_cons_zero, List.set_cons_succ]
                      refine wpAnyH_ready (rs := [18]) (by kernel_rfl) (by simp) ?_
                      refine AllReadyH.cons (o := _) rfl (fun K hK => ?_) AllReadyH.nil
                      go_simp
                      go_at_call 32
                      refine (HX.out _ wz0 hH1.2.1 (by have := hH1.2.2.2.2.2.2.2.2.2.2.2.1; omega) _ TD2.out).mono ?_
                      rintro e wz1 ⟨rfl, hb1⟩
                      try go_wp2_with fail
                      have hF := FBox.below hH1.1 hb1 (FBox.lt hH1.1)
                      have hFA := FileAt.below hH1.2.1 hb1 (show B ≤ (wz0).heap.size by have := hH1.2.2.2.2.2.2.2.2.2.2.2.1; omega)
                      have hy1 := keepc hb1 (B := w.heap.size) hpw hH1.2.2.2.2.2.2.2.2.2.2.2.1 hH1.2.2.2.2.2.2.2.2.2.1
                      have hy2 := keepc hb1 (B := w.heap.size) hpw hH1.2.2.2.2.2.2.2.2.2.2.2.1 hH1.2.2.2.2.2.2.2.2.2.2.1
                      have hss := Nat.le_trans hH1.2.2.2.2.2.2.2.2.2.2.2.1 hb1.size
                      have hBE := Below.link hH1.2.2.2.2.2.2.2.2.2.2.2.2 hb1
                      obtain ⟨c0', c1', c2', c3', c4', c5', c6'⟩ := hF.cells
                      refine hK.out _ _ ⟨hF, hFA, c0', c1', c2', c3', c4', c5', c6', hy1, hy2, hss, hBE⟩ (fun hH2 => ?_)
                      clear hK K hH1 hF hFA hy1 hy2 hss hBE c0' c1' c2' c3' c4' c5' c6' hb1
                      try simp only [Act.put, List.setIfInBounds_toArray, List.set_cons_zero, List.set_cons_succ]
                      refine wpAnyH_take (i := 20) (oi := ({ dst := some 118, op := Op.binOp BinOp.eql 9 (Operand.tmp 116) (Operand.tmp 117) 9, type := 4, pos := "ref.go:173", after := #[{ on := 18, ground := Ground.data }, { on := 19, ground := Ground.data }, { on := 10, ground := Ground.guard }], guard := some (10, true) } : Oper)) (v := ?v9x20) rfl (by kernel_rfl) (by kernel_rfl) (by kernel_rfl) (fun _ _ _ h => h) (Or.inl ⟨by rfl, ?hy9x20⟩) hH2 ?_
                      case hy9x20 => ((intro w hSw); (try dsimp only at hSw); go_simp; try with_reducible rfl)
                      try simp only [Act.put, List.setIfInBounds_toArray, List.set_cons_zero, List.set_cons_succ]
                      refine wpAnyH_take (i := 21) (oi := ({ dst := some 119, op := Op.pick (Operand.tmp 108) (Operand.tmp 118) (Operand.const (Value.bool false)), type := 4, pos := "ref.go:173", after := #[{ on := 10, ground := Ground.data }, { on := 20, ground := Ground.data }], guard := none } : Oper)) (v := ?v9x21) rfl (by kernel_rfl) (by kernel_rfl) (by kernel_rfl) (fun _ _ _ h => h) (Or.inl ⟨by rfl, ?hy9x21⟩) hH2 ?_
                      case hy9x21 => ((intro w hSw); (try dsimp only at hSw); go_simp; try with_reducible rfl)
                      try simp only [Act.put, List.setIfInBounds_toArray, List.set_cons_zero, List.set_cons_succ]
                      refine wpAnyH_done (by kernel_rfl) ?_ _
                      have FLI := Lib.hid hH2.2.1
                      have BFI := Lib.hid hH2.1
                      have BEI := Lib.hid hH2.2.2.2.2.2.2.2.2.2.2.2.2
                      clear hH2 c0 c1 c2 c3 c4 c5 c6 y1 y2
                      go_wp2
                      go_ret
                      exact ⟨ret_i HRR.out.symm, BEI.out⟩
                · have hki : k = i := by omega
                  have HRR := Lib.hid (show R = 0 by rw [HRL.out, ← hki, HANY.out]; rfl)
                  clear hki
                  go_wp2
                  go_ret
                  exact ⟨ret_i HRR.out.symm, BE9.out⟩
          · have HSP := Lib.hid (show specE f.pool m = 10 by unfold specE; rw [if_neg hi1, if_pos hc1, if_neg (fun h => hv1 h.2)])
            have e1 : ((textP f.pool m.nm).toList == [60, 105, 110, 105, 116, 62]) = false := beq_lit _ initN _ (toList_data initN) _ (by simpa using hi1)
            have e2 : ((textP f.pool m.nm).toList == [60, 99, 108, 105, 110, 105, 116, 62]) = true := beq_lit _ clinitN _ (toList_data clinitN) _ (by simpa using hc1)
            have e3 : ((textP f.pool m.ds).toList == [40, 41, 86]) = false := beq_lit _ voidD _ (toList_data voidD) _ (by simpa using hv1)
            clear hi1 hc1 hv1
            have HRR := Lib.hid (show R = 10 by have h := HR.out; rw [HSP.out] at h; simpa using h)
            go_wp2
            go_ret
            exact ⟨ret_i HRR.out.symm, BE5.out⟩
        · have HSP := Lib.hid (show specE f.pool m = 0 by unfold specE; rw [if_neg hi1, if_neg hc1])
          have e1 : ((textP f.pool m.nm).toList == [60, 105, 110, 105, 116, 62]) = false := beq_lit _ initN _ (toList_data initN) _ (by simpa using hi1)
          have e2 : ((textP f.pool m.nm).toList == [60, 99, 108, 105, 110, 105, 116, 62]) = false := beq_lit _ clinitN _ (toList_data clinitN) _ (by simpa using hc1)
          clear hi1 hc1
          have HRC := Lib.hid (show R = if bodyE f.pool m = 0 then (if (f.mts.take i).any (fun d => sameM f.pool d m) = true then 15 else 0) else bodyE f.pool m by have h := HR.out; rw [HSP.out] at h; simpa using h)
          have HCB := Lib.hid (refCoded_any f _ _ FL5.out (Nat.le_trans hB BE5.out.size) m A2 c2' (show HRow B _ (.slice A2 m.hs.length c2') m.hs from Row.keep HRW.out fun p hp => (BE5.out.cell (p := p) (by omega)).trans (BEA.out.cell (p := p) (by omega)).symm) HNE.out)
          generalize bodyE f.pool m = E2 at *
          go_wp2_with fail
          refine (HCB.out).mono ?_
          rintro e w6 ⟨rfl, hb⟩
          have BE6 := Lib.hid (Below.link BE5.out hb)
          have FL6 := Lib.hid (FL5.out.below hb (Nat.le_trans hB BE5.out.size))
          have BF6 := Lib.hid (BF5.out.below hb BF5.out.lt)
          have ltBF6 := BF6.out.lt
          have BM6 := Lib.hid (BM5.out.below hb BM5.out.lt)
          have ltBM6 := BM6.out.lt
          clear hb
          clear c0 c1 c2 c3 c4 c5 c6 m0 m1 m2 m3 m4 m5 m6
          obtain ⟨c0, c1, c2, c3, c4, c5, c6⟩ := BF6.out.cells
          obtain ⟨m0, m1, m2, m3, m4, m5, m6⟩ := BM6.out.cells
          rcases (Classical.em (E2 = 0)).symm with hE2 | hE2
          · have HRR := Lib.hid (show R = E2 by rw [HRC.out, if_neg hE2])
            have ge2 : (E2 == 0) = false := by simpa using hE2
            have ge2' : (E2 != 0) = true := by simpa using hE2
            clear hE2
            go_wp2
            go_ret
            exact ⟨ret_i HRR.out.symm, BE6.out⟩
          · subst hE2
            have HRL := Lib.hid (show R = (if (f.mts.take i).any (fun d => sameM f.pool d m) = true then 15 else 0) by rw [HRC.out, if_pos rfl])
            go_wp2
            go_loopg [12] i (fun g iv wx => ∃ k : Nat, iv = .int .i64 k ∧ k + g = i ∧ (f.mts.take k).any (fun d => sameM f.pool d m) = false ∧ FileAt B wx (.agg #[.slice Ap f.pool.length cp, .int .i64 f.fl, .int .i64 f.this, .int .i64 f.super, .slice Ai f.ifs.length ci, .slice Af f.fds.length cf, .slice (some ⟨p0, o0, none⟩) f.mts.length cm]) f ∧ FBox w.heap.size Ap cp Ai ci Af cf (some ⟨p0, o0, none⟩) cm f wx ∧ Below w.heap.size w wx)
            case atStart => exact ⟨0, rfl, by omega, by simp, FL6.out, BF6.out, BE6.out⟩
            case round =>
              obtain ⟨k, rfl, hkg, hany, hfl, hbf, hbe⟩ := hrel
              have HANY := Lib.hid hany
              have FL9 := Lib.hid hfl
              have BF9 := Lib.hid hbf
              have BE9 := Lib.hid hbe
              have ltBF9 := hbf.lt
              clear hany hfl hbf hbe c0 c1 c2 c3 c4 c5 c6 m0 m1 m2 m3 m4 m5 m6
              obtain ⟨c0, c1, c2, c3, c4, c5, c6⟩ := BF9.out.cells
              by_cases hlt : k < i
              · have hgg : gk - 1 < gk := by omega
                obtain ⟨d, hd⟩ : ∃ d, f.mts[k]? = some d := ⟨_, List.getElem?_eq_getElem (by omega)⟩
                have TD1 := Lib.hid (HP.out k d hlt hd).1
                have TD2 := Lib.hid (HP.out k d hlt hd).2
                have HNX := Lib.hid (any_next (g := fun d => sameM f.pool d m) hd HANY.out)
                have HAL := Lib.hid (fun h => any_later (g := fun d => sameM f.pool d m) hd hlt h)
                have hI3 := HI.out.keep (w' := wr) (fun p hp => BE9.out.cell (p := p) (by omega))
                obtain ⟨p1, o1, A3, c3', e1, hb1, hrow1, -, y1, y2, -, -, -, -⟩ := hI3.mts.at_ hd
                injection e1 with e1
                injection e1 with e2 e3 e4
                subst e2 e3
                have hwk2 : IntKind.i64.wrap (k : Int) = k := IntWalk.i64_in _ (by omega)
                have hlk : (k : Int) < f.mts.length := by omega
                have hpw : p0 < w.heap.size := by omega
                have hsz9 : w.heap.size ≤ wr.heap.size := by omega
                clear hd hI3 hrow1 e4
                cases hn : decide (textP f.pool d.nm = textP f.pool m.nm) with
                | false =>
                  have hs1 : ((textP f.pool d.nm).toList == (textP f.pool m.nm).toList) = false := (str_beq _ _).trans hn
                  have HF := Lib.hid (show sameM f.pool d m = false by unfold sameM sameN; rw [hn]; rfl)
                  clear hn
                  go_wp2
                  refine wp_region_held_drew (S := (fun w' => FBox w.heap.size Ap cp Ai ci Af cf (some ⟨p0, o0, none⟩) cm f w' ∧ FileAt B w' (.agg #[.slice Ap f.pool.length cp, .int .i64 f.fl, .int .i64 f.this, .int .i64 f.super, .slice Ai f.ifs.length ci, .slice Af f.fds.length cf, .slice (some ⟨p0, o0, none⟩) f.mts.length cm]) f ∧ w'.cell? ⟨w.heap.size, 0, none⟩ = some (.slice Ap f.pool.length cp) ∧ w'.cell? ⟨w.heap.size, 1, none⟩ = some (.int .i64 f.fl) ∧ w'.cell? ⟨w.heap.size, 2, none⟩ = some (.int .i64 f.this) ∧ w'.cell? ⟨w.heap.size, 3, none⟩ = some (.int .i64 f.super) ∧ w'.cell? ⟨w.heap.size, 4, none⟩ = some (.slice Ai f.ifs.length ci) ∧ w'.cell? ⟨w.heap.size, 5, none⟩ = some (.slice Af f.fds.length cf) ∧ w'.cell? ⟨w.heap.size, 6, none⟩ = some (.slice (some ⟨p0, o0, none⟩) f.mts.length cm) ∧ w'.cell? ⟨p0, o0 + k * 7 + 1, none⟩ = some (.int .i64 d.nm) ∧ w'.cell? ⟨p0, o0 + k * 7 + 2, none⟩ = some (.int .i64 d.ds) ∧ w.heap.size ≤ w'.heap.size ∧ Below w.heap.size w w')) (by kernel_rfl) (⟨BF9.out.drew, FL9.out.drew, c0, c1, c2, c3, c4, c5, c6, y1, y2, hsz9, BE9.out.drew⟩) (fun hH => ?_)
                  refine wpAnyH_take (i := 0) (oi := ({ dst := some 98, op := Op.load 26 (Operand.tmp 2), type := 26, pos := "ref.go:173", after := #[], guard := none } : Oper)) (v := ?v10x0) rfl (by kernel_rfl) (by kernel_rfl) (by kernel_rfl) (fun _ _ _ h => h) (Or.inl ⟨by rfl, ?hy10x0⟩) hH ?_
                  case hy10x0 => ((intro w hSw); (try dsimp only at hSw); go_simp; try with_reducible rfl)
                  try simp only [Act.put, List.setIfInBounds_toArray, List.set_cons_zero, List.set_cons_succ]
                  refine wpAnyH_take (i := 1) (oi := ({ dst := some 99, op := Op.fieldAddr 26 (Operand.tmp 2) 6, type := 0, pos := "ref.go:173", after := #[], guard := none } : Oper)) (v := ?v10x1) rfl (by kernel_rfl) (by kernel_rfl) (by kernel_rfl) (fun _ _ _ h => h) (Or.inl ⟨by rfl, ?hy10x1⟩) hH ?_
                  case hy10x1 => ((intro w hSw); (try dsimp only at hSw); go_simp; try with_reducible rfl)
                  try simp only [Act.put, List.setIfInBounds_toArray, List.set_cons_zero, List.set_cons_succ]
                  refine wpAnyH_take (i := 2) (oi := ({ dst := some 100, op := Op.load 24 (Operand.tmp 99), type := 24, pos := "ref.go:173", after := #[{ on := 1, ground := Ground.data }], guard := none } : Oper)) (v := ?v10x2) rfl (by kernel_rfl) (by kernel_rfl) (by kernel_rfl) (fun _ _ _ h => h) (Or.inl ⟨by rfl, ?hy10x2⟩) hH ?_
                  case hy10x2 => ((intro w hSw); (try dsimp only at hSw); go_simp; try with_reducible rfl)
                  try simp only [Act.put, List.setIfInBounds_toArray, List.set_cons_zero, List.set_cons_succ]
                  refine wpAnyH_take (i := 3) (oi := ({ dst := some 101, op := Op.move (Operand.tmp 12), type := 3, pos := "ref.go:173", after := #[], guard := none } : Oper)) (v := ?v10x3) rfl (by kernel_rfl) (by kernel_rfl) (by kernel_rfl) (fun _ _ _ h => h) (Or.inl ⟨by rfl, ?hy10x3⟩) hH ?_
                  case hy10x3 => ((intro w hSw); (try dsimp only at hSw); go_simp; try with_reducible rfl)
                  try simp only [Act.put, List.setIfInBounds_toArray, List.set_cons_zero, List.set_cons_succ]
                  refine wpAnyH_take (i := 4) (oi := ({ dst := some 102, op := Op.indexAddr 24 (Operand.tmp 100) (Operand.tmp 101), type := 0, pos := "ref.go:173", after := #[{ on := 2, ground := Ground.data }, { on := 3, ground := Ground.data }], guard := none } : Oper)) (v := ?v10x4) rfl (by kernel_rfl) (by kernel_rfl) (by kernel_rfl) (fun _ _ _ h => h) (Or.inl ⟨by rfl, ?hy10x4⟩) hH ?_
                  case hy10x4 => ((intro w hSw); (try dsimp only at hSw); go_simp; try with_reducible rfl)
                  try simp only [Act.put, List.setIfInBounds_toArray, List.set_cons_zero, List.set_cons_succ]
                  refine wpAnyH_take (i := 5) (oi := ({ dst := some 103, op := Op.fieldAddr 38 (Operand.tmp 102) 1, type := 0, pos := "ref.go:173", after := #[{ on := 4, ground := Ground.data }], guard := none } : Oper)) (v := ?v10x5) rfl (by kernel_rfl) (by kernel_rfl) (by kernel_rfl) (fun _ _ _ h => h) (Or.inl ⟨by rfl, ?hy10x5⟩) hH ?_
                  case hy10x5 => ((intro w hSw); (try dsimp only at hSw); go_simp; try with_reducible rfl)
                  try simp only [Act.put, List.setIfInBounds_toArray, List.set_cons_zero, List.set_cons_succ]
                  refine wpAnyH_take (i := 6) (oi := ({ dst := some 104, op := Op.load 3 (Operand.tmp 103), type := 3, pos := "ref.go:173", after := #[{ on := 5, ground := Ground.data }], guard := none } : Oper)) (v := ?v10x6) rfl (by kernel_rfl) (by kernel_rfl) (by kernel_rfl) (fun _ _ _ h => h) (Or.inl ⟨by rfl, ?hy10x6⟩) hH ?_
                  case hy10x6 => ((intro w hSw); (try dsimp only at hSw); go_simp; try with_reducible rfl)
                  try simp only [Act.put, List.setIfInBounds_toArray, List.set_cons_zero, List.set_cons_succ]
                  refine wpAnyH_take (i := 8) (oi := ({ dst := some 106, op := Op.move (Operand.tmp 7), type := 9, pos := "ref.go:173", after := #[], guard := none } : Oper)) (v := ?v10x8) rfl (by kernel_rfl) (by kernel_rfl) (by kernel_rfl) (fun _ _ _ h => h) (Or.inl ⟨by rfl, ?hy10x8⟩) hH ?_
                  case hy10x8 => ((intro w hSw); (try dsimp only at hSw); go_simp; try with_reducible rfl)
                  try simp only [Act.put, List.setIfInBounds_toArray, List.set_cons_zero, List.set_cons_succ]
                  refine wpAnyH_ready (rs := [7]) (by kernel_rfl) (by simp) ?_
                  refine AllReadyH.cons (o := _) rfl (fun K hK => ?_) AllReadyH.nil
                  go_simp
                  go_at_call 32
                  refine (HX.out _ wr.drew hH.2.1 (by have := hH.2.2.2.2.2.2.2.2.2.2.2.1; omega) _ TD1.out).mono ?_
                  rintro e wz0 ⟨rfl, hb0⟩
                  try go_wp2_with fail
                  have hF := FBox.below hH.1 hb0 (FBox.lt hH.1)
                  have hFA := FileAt.below hH.2.1 hb0 (show B ≤ (wr.drew).heap.size by have := hH.2.2.2.2.2.2.2.2.2.2.2.1; omega)
                  have hy1 := keepc hb0 (B := w.heap.size) hpw hH.2.2.2.2.2.2.2.2.2.2.2.1 hH.2.2.2.2.2.2.2.2.2.1
                  have hy2 := keepc hb0 (B := w.heap.size) hpw hH.2.2.2.2.2.2.2.2.2.2.2.1 hH.2.2.2.2.2.2.2.2.2.2.1
                  have hss := Nat.le_trans hH.2.2.2.2.2.2.2.2.2.2.2.1 hb0.size
                  have hBE := Below.link hH.2.2.2.2.2.2.2.2.2.2.2.2 hb0
                  obtain ⟨c0', c1', c2', c3', c4', c5', c6'⟩ := hF.cells
                  refine hK.out _ _ ⟨hF, hFA, c0', c1', c2', c3', c4', c5', c6', hy1, hy2, hss, hBE⟩ (fun hH1 => ?_)
                  clear hK K hH hF hFA hy1 hy2 hss hBE c0' c1' c2' c3' c4' c5' c6' hb0
                  try simp only [Act.put, List.setIfInBounds_toArray, List.set_cons_zero, List.set_cons_succ]
                  refine wpAnyH_take (i := 9) (oi := ({ dst := some 107, op := Op.binOp BinOp.eql 9 (Operand.tmp 105) (Operand.tmp 106) 9, type := 4, pos := "ref.go:173", after := #[{ on := 7, ground := Ground.data }, { on := 8, ground := Ground.data }], guard := none } : Oper)) (v := ?v10x9) rfl (by kernel_rfl) (by kernel_rfl) (by kernel_rfl) (fun _ _ _ h => h) (Or.inl ⟨by rfl, ?hy10x9⟩) hH1 ?_
                  case hy10x9 => ((intro w hSw); (try dsimp only at hSw); go_simp; try with_reducible rfl)
                  try simp only [Act.put, List.setIfInBounds_toArray, List.set_cons_zero, List.set_cons_succ]
                  refine wpAnyH_take (i := 10) (oi := ({ dst := some 108, op := Op.move (Operand.tmp 107), type := 4, pos := "ref.go:173", after := #[{ on := 9, ground := Ground.data }, { on := 7, ground := Ground.chain }], guard := none } : Oper)) (v := ?v10x10) rfl (by kernel_rfl) (by kernel_rfl) (by kernel_rfl) (fun _ _ _ h => h) (Or.inl ⟨by rfl, ?hy10x10⟩) hH1 ?_
                  case hy10x10 => ((intro w hSw); (try dsimp only at hSw); go_simp; try with_reducible rfl)
                  try simp only [Act.put, List.setIfInBounds_toArray, List.set_cons_zero, List.set_cons_succ]
                  refine wpAnyH_take (i := 11) (oi := ({ dst := some 109, op := Op.load 26 (Operand.tmp 2), type := 26, pos := "ref.go:173", after := #[{ on := 10, ground := Ground.guard }], guard := some (10, true) } : Oper)) (v := undef) rfl (by kernel_rfl) (by kernel_rfl) (by kernel_rfl) (fun _ _ _ h => h) (Or.inr ⟨by rfl, rfl⟩) hH1 ?_
                  try simp only [Act.put, List.setIfInBounds_toArray, List.set_cons_zero, List.set_cons_succ]
                  refine wpAnyH_take (i := 12) (oi := ({ dst := some 110, op := Op.fieldAddr 26 (Operand.tmp 2) 6, type := 0, pos := "ref.go:173", after := #[{ on := 10, ground := Ground.guard }], guard := some (10, true) } : Oper)) (v := undef) rfl (by kernel_rfl) (by kernel_rfl) (by kernel_rfl) (fun _ _ _ h => h) (Or.inr ⟨by rfl, rfl⟩) hH1 ?_
                  try simp only [Act.put, List.setIfInBounds_toArray, List.set_cons_zero, List.set_cons_succ]
                  refine wpAnyH_take (i := 13) (oi := ({ dst := some 111, op := Op.load 24 (Operand.tmp 110), type := 24, pos := "ref.go:173", after := #[{ on := 12, ground := Ground.data }, { on := 10, ground := Ground.guard }], guard := some (10, true) } : Oper)) (v := undef) rfl (by kernel_rfl) (by kernel_rfl) (by kernel_rfl) (fun _ _ _ h => h) (Or.inr ⟨by rfl, rfl⟩) hH1 ?_
                  try simp only [Act.put, List.setIfInBounds_toArray, List.set_cons_zero, List.set_cons_succ]
                  refine wpAnyH_take (i := 14) (oi := ({ dst := some 112, op := Op.move (Operand.tmp 12), type := 3, pos := "ref.go:173", after := #[{ on := 10, ground := Ground.guard }], guard := some (10, true) } : Oper)) (v := undef) rfl (by kernel_rfl) (by kernel_rfl) (by kernel_rfl) (fun _ _ _ h => h) (Or.inr ⟨by rfl, rfl⟩) hH1 ?_
                  try simp only [Act.put, List.setIfInBounds_toArray, List.set_cons_zero, List.set_cons_succ]
                  refine wpAnyH_take (i := 15) (oi := ({ dst := some 113, op := Op.indexAddr 24 (Operand.tmp 111) (Operand.tmp 112), type := 0, pos := "ref.go:173", after := #[{ on := 13, ground := Ground.data }, { on := 14, ground := Ground.data }, { on := 10, ground := Ground.guard }], guard := some (10, true) } : Oper)) (v := undef) rfl (by kernel_rfl) (by kernel_rfl) (by kernel_rfl) (fun _ _ _ h => h) (Or.inr ⟨by rfl, rfl⟩) hH1 ?_
                  try simp only [Act.put, List.setIfInBounds_toArray, List.set_cons_zero, List.set_cons_succ]
                  refine wpAnyH_take (i := 16) (oi := ({ dst := some 114, op := Op.fieldAddr 38 (Operand.tmp 113) 2, type := 0, pos := "ref.go:173", after := #[{ on := 15, ground := Ground.data }, { on := 10, ground := Ground.guard }], guard := some (10, true) } : Oper)) (v := undef) rfl (by kernel_rfl) (by kernel_rfl) (by kernel_rfl) (fun _ _ _ h => h) (Or.inr ⟨by rfl, rfl⟩) hH1 ?_
                  try simp only [Act.put, List.setIfInBounds_toArray, List.set_cons_zero, List.set_cons_succ]
                  refine wpAnyH_take (i := 17) (oi := ({ dst := some 115, op := Op.load 3 (Operand.tmp 114), type := 3, pos := "ref.go:173", after := #[{ on := 16, ground := Ground.data }, { on := 10, ground := Ground.guard }], guard := some (10, true) } : Oper)) (v := undef) rfl (by kernel_rfl) (by kernel_rfl) (by kernel_rfl) (fun _ _ _ h => h) (Or.inr ⟨by rfl, rfl⟩) hH1 ?_
                  try simp only [Act.put, List.setIfInBounds_toArray, List.set_cons_zero, List.set_cons_succ]
                  refine wpAnyH_take (i := 18) (oi := ({ dst := some 116, op := Op.call { callee := Callee.value (Operand.func 32), args := #[Operand.tmp 109, Operand.tmp 115], argTypes := #[26, 3] }, type := 9, pos := "ref.go:173", after := #[{ on := 11, ground := Ground.data }, { on := 17, ground := Ground.data }, { on := 10, ground := Ground.chain }, { on := 10, ground := Ground.guard }], guard := some (10, true) } : Oper)) (v := undef) rfl (by kernel_rfl) (by kernel_rfl) (by kernel_rfl) (fun _ _ _ h => h) (Or.inr ⟨by rfl, rfl⟩) hH1 ?_
                  try simp only [Act.put, List.setIfInBounds_toArray, List.set_cons_zero, List.set_cons_succ]
                  refine wpAnyH_take (i := 19) (oi := ({ dst := some 117, op := Op.move (Operand.tmp 8), type := 9, pos := "ref.go:173", after := #[{ on := 10, ground := Ground.guard }], guard := some (10, true) } : Oper)) (v := undef) rfl (by kernel_rfl) (by kernel_rfl) (by kernel_rfl) (fun _ _ _ h => h) (Or.inr ⟨by rfl, rfl⟩) hH1 ?_
                  try simp only [Act.put, List.setIfInBounds_toArray, List.set_cons_zero, List.set_cons_succ]
                  refine wpAnyH_take (i := 20) (oi := ({ dst := some 118, op := Op.binOp BinOp.eql 9 (Operand.tmp 116) (Operand.tmp 117) 9, type := 4, pos := "ref.go:173", after := #[{ on := 18, ground := Ground.data }, { on := 19, ground := Ground.data }, { on := 10, ground := Ground.guard }], guard := some (10, true) } : Oper)) (v := undef) rfl (by kernel_rfl) (by kernel_rfl) (by kernel_rfl) (fun _ _ _ h => h) (Or.inr ⟨by rfl, rfl⟩) hH1 ?_
                  try simp only [Act.put, List.setIfInBounds_toArray, List.set_cons_zero, List.set_cons_succ]
                  refine wpAnyH_take (i := 21) (oi := ({ dst := some 119, op := Op.pick (Operand.tmp 108) (Operand.tmp 118) (Operand.const (Value.bool false)), type := 4, pos := "ref.go:173", after := #[{ on := 10, ground := Ground.data }, { on := 20, ground := Ground.data }], guard := none } : Oper)) (v := ?v10x21) rfl (by kernel_rfl) (by kernel_rfl) (by kernel_rfl) (fun _ _ _ h => h) (Or.inl ⟨by rfl, ?hy10x21⟩) hH1 ?_
                  case hy10x21 => ((intro w hSw); (try dsimp only at hSw); go_simp; try with_reducible rfl)
                  try simp only [Act.put, List.setIfInBounds_toArray, List.set_cons_zero, List.set_cons_succ]
                  refine wpAnyH_done (by kernel_rfl) ?_ _
                  have FLI := Lib.hid hH1.2.1
                  have BFI := Lib.hid hH1.1
                  have BEI := Lib.hid hH1.2.2.2.2.2.2.2.2.2.2.2.2
                  clear hH1 c0 c1 c2 c3 c4 c5 c6 y1 y2
                  go_wp2
                  go_roundg (gk - 1)
                  case measure => exact hgg
                  case rel => exact ⟨k + 1, by go_num, by omega, HNX.out.trans HF.out, FLI.out, BFI.out, BEI.out⟩
                | true =>
                  cases hn2 : decide (textP f.pool d.ds = textP f.pool m.ds) with
                  | false =>
                    have hs1 : ((textP f.pool d.nm).toList == (textP f.pool m.nm).toList) = true := (str_beq _ _).trans hn
                    have hs2 : ((textP f.pool d.ds).toList == (textP f.pool m.ds).toList) = false := (str_beq _ _).trans hn2
                    have HF := Lib.hid (show sameM f.pool d m = false by unfold sameM sameN sameD; rw [hn, hn2]; rfl)
                    clear hn hn2
                    go_wp2
                    refine wp_region_held_drew (S := (fun w' => FBox w.heap.size Ap cp Ai ci Af cf (some ⟨p0, o0, none⟩) cm f w' ∧ FileAt B w' (.agg #[.slice Ap f.pool.length cp, .int .i64 f.fl, .int .i64 f.this, .int .i64 f.super, .slice Ai f.ifs.length ci, .slice Af f.fds.length cf, .slice (some ⟨p0, o0, none⟩) f.mts.length cm]) f ∧ w'.cell? ⟨w.heap.size, 0, none⟩ = some (.slice Ap f.pool.length cp) ∧ w'.cell? ⟨w.heap.size, 1, none⟩ = some (.int .i64 f.fl) ∧ w'.cell? ⟨w.heap.size, 2, none⟩ = some (.int .i64 f.this) ∧ w'.cell? ⟨w.heap.size, 3, none⟩ = some (.int .i64 f.super) ∧ w'.cell? ⟨w.heap.size, 4, none⟩ = some (.slice Ai f.ifs.length ci) ∧ w'.cell? ⟨w.heap.size, 5, none⟩ = some (.slice Af f.fds.length cf) ∧ w'.cell? ⟨w.heap.size, 6, none⟩ = some (.slice (some ⟨p0, o0, none⟩) f.mts.length cm) ∧ w'.cell? ⟨p0, o0 + k * 7 + 1, none⟩ = some (.int .i64 d.nm) ∧ w'.cell? ⟨p0, o0 + k * 7 + 2, none⟩ = some (.int .i64 d.ds) ∧ w.heap.size ≤ w'.heap.size ∧ Below w.heap.size w w')) (by kernel_rfl) (⟨BF9.out.drew, FL9.out.drew, c0, c1, c2, c3, c4, c5, c6, y1, y2, hsz9, BE9.out.drew⟩) (fun hH => ?_)
                    refine wpAnyH_take (i := 0) (oi := ({ dst := some 98, op := Op.load 26 (Operand.tmp 2), type := 26, pos := "ref.go:173", after := #[], guard := none } : Oper)) (v := ?v11x0) rfl (by kernel_rfl) (by kernel_rfl) (by kernel_rfl) (fun _ _ _ h => h) (Or.inl ⟨by rfl, ?hy11x0⟩) hH ?_
                    case hy11x0 => ((intro w hSw); (try dsimp only at hSw); go_simp; try with_reducible rfl)
                    try simp only [Act.put, List.setIfInBounds_toArray, List.set_cons_zero, List.set_cons_succ]
                    refine wpAnyH_take (i := 1) (oi := ({ dst := some 99, op := Op.fieldAddr 26 (Operand.tmp 2) 6, type := 0, pos := "ref.go:173", after := #[], guard := none } : Oper)) (v := ?v11x1) rfl (by kernel_rfl) (by kernel_rfl) (by kernel_rfl) (fun _ _ _ h => h) (Or.inl ⟨by rfl, ?hy11x1⟩) hH ?_
                    case hy11x1 => ((intro w hSw); (try dsimp only at hSw); go_simp; try with_reducible rfl)
                    try simp only [Act.put, List.setIfInBounds_toArray, List.set_cons_zero, List.set_cons_succ]
                    refine wpAnyH_take (i := 2) (oi := ({ dst := some 100, op := Op.load 24 (Operand.tmp 99), type := 24, pos := "ref.go:173", after := #[{ on := 1, ground := Ground.data }], guard := none } : Oper)) (v := ?v11x2) rfl (by kernel_rfl) (by kernel_rfl) (by kernel_rfl) (fun _ _ _ h => h) (Or.inl ⟨by rfl, ?hy11x2⟩) hH ?_
                    case hy11x2 => ((intro w hSw); (try dsimp only at hSw); go_simp; try with_reducible rfl)
                    try simp only [Act.put, List.setIfInBounds_toArray, List.set_cons_zero, List.set_cons_succ]
                    refine wpAnyH_take (i := 3) (oi := ({ dst := some 101, op := Op.move (Operand.tmp 12), type := 3, pos := "ref.go:173", after := #[], guard := none } : Oper)) (v := ?v11x3) rfl (by kernel_rfl) (by kernel_rfl) (by kernel_rfl) (fun _ _ _ h => h) (Or.inl ⟨by rfl, ?hy11x3⟩) hH ?_
                    case hy11x3 => ((intro w hSw); (try dsimp only at hSw); go_simp; try with_reducible rfl)
                    try simp only [Act.put, List.setIfInBounds_toArray, List.set_cons_zero, List.set_cons_succ]
                    refine wpAnyH_take (i := 4) (oi := ({ dst := some 102, op := Op.indexAddr 24 (Operand.tmp 100) (Operand.tmp 101), type := 0, pos := "ref.go:173", after := #[{ on := 2, ground := Ground.data }, { on := 3, ground := Ground.data }], guard := none } : Oper)) (v := ?v11x4) rfl (by kernel_rfl) (by kernel_rfl) (by kernel_rfl) (fun _ _ _ h => h) (Or.inl ⟨by rfl, ?hy11x4⟩) hH ?_
                    case hy11x4 => ((intro w hSw); (try dsimp only at hSw); go_simp; try with_reducible rfl)
                    try simp only [Act.put, List.setIfInBounds_toArray, List.set_cons_zero, List.set_cons_succ]
                    refine wpAnyH_take (i := 5) (oi := ({ dst := some 103, op := Op.fieldAddr 38 (Operand.tmp 102) 1, type := 0, pos := "ref.go:173", after := #[{ on := 4, ground := Ground.data }], guard := none } : Oper)) (v := ?v11x5) rfl (by kernel_rfl) (by kernel_rfl) (by kernel_rfl) (fun _ _ _ h => h) (Or.inl ⟨by rfl, ?hy11x5⟩) hH ?_
                    case hy11x5 => ((intro w hSw); (try dsimp only at hSw); go_simp; try with_reducible rfl)
                    try simp only [Act.put, List.setIfInBounds_toArray, List.set_cons_zero, List.set_cons_succ]
                    refine wpAnyH_take (i := 6) (oi := ({ dst := some 104, op := Op.load 3 (Operand.tmp 103), type := 3, pos := "ref.go:173", after := #[{ on := 5, ground := Ground.data }], guard := none } : Oper)) (v := ?v11x6) rfl (by kernel_rfl) (by kernel_rfl) (by kernel_rfl) (fun _ _ _ h => h) (Or.inl ⟨by rfl, ?hy11x6⟩) hH ?_
                    case hy11x6 => ((intro w hSw); (try dsimp only at hSw); go_simp; try with_reducible rfl)
                    try simp only [Act.put, List.setIfInBounds_toArray, List.set_cons_zero, List.set_cons_succ]
                    refine wpAnyH_take (i := 8) (oi := ({ dst := some 106, op := Op.move (Operand.tmp 7), type := 9, pos := "ref.go:173", after := #[], guard := none } : Oper)) (v := ?v11x8) rfl (by kernel_rfl) (by kernel_rfl) (by kernel_rfl) (fun _ _ _ h => h) (Or.inl ⟨by rfl, ?hy11x8⟩) hH ?_
                    case hy11x8 => ((intro w hSw); (try dsimp only at hSw); go_simp; try with_reducible rfl)
                    try simp only [Act.put, List.setIfInBounds_toArray, List.set_cons_zero, List.set_cons_succ]
                    refine wpAnyH_ready (rs := [7]) (by kernel_rfl) (by simp) ?_
                    refine AllReadyH.cons (o := _) rfl (fun K hK => ?_) AllReadyH.nil
                    go_simp
                    go_at_call 32
                    refine (HX.out _ wr.drew hH.2.1 (by have := hH.2.2.2.2.2.2.2.2.2.2.2.1; omega) _ TD1.out).mono ?_
                    rintro e wz0 ⟨rfl, hb0⟩
                    try go_wp2_with fail
                    have hF := FBox.below hH.1 hb0 (FBox.lt hH.1)
                    have hFA := FileAt.below hH.2.1 hb0 (show B ≤ (wr.drew).heap.size by have := hH.2.2.2.2.2.2.2.2.2.2.2.1; omega)
                    have hy1 := keepc hb0 (B := w.heap.size) hpw hH.2.2.2.2.2.2.2.2.2.2.2.1 hH.2.2.2.2.2.2.2.2.2.1
                    have hy2 := keepc hb0 (B := w.heap.size) hpw hH.2.2.2.2.2.2.2.2.2.2.2.1 hH.2.2.2.2.2.2.2.2.2.2.1
                    have hss := Nat.le_trans hH.2.2.2.2.2.2.2.2.2.2.2.1 hb0.size
                    have hBE := Below.link hH.2.2.2.2.2.2.2.2.2.2.2.2 hb0
                    obtain ⟨c0', c1', c2', c3', c4', c5', c6'⟩ := hF.cells
                    refine hK.out _ _ ⟨hF, hFA, c0', c1', c2', c3', c4', c5', c6', hy1, hy2, hss, hBE⟩ (fun hH1 => ?_)
                    clear hK K hH hF hFA hy1 hy2 hss hBE c0' c1' c2' c3' c4' c5' c6' hb0
                    try simp only [Act.put, List.setIfInBounds_toArray, List.set_cons_zero, List.set_cons_succ]
                    refine wpAnyH_take (i := 9) (oi := ({ dst := some 107, op := Op.binOp BinOp.eql 9 (Operand.tmp 105) (Operand.tmp 106) 9, type := 4, pos := "ref.go:173", after := #[{ on := 7, ground := Ground.data }, { on := 8, ground := Ground.data }], guard := none } : Oper)) (v := ?v11x9) rfl (by kernel_rfl) (by kernel_rfl) (by kernel_rfl) (fun _ _ _ h => h) (Or.inl ⟨by rfl, ?hy11x9⟩) hH1 ?_
                    case hy11x9 => ((intro w hSw); (try dsimp only at hSw); go_simp; try with_reducible rfl)
                    try simp only [Act.put, List.setIfInBounds_toArray, List.set_cons_zero, List.set_cons_succ]
                    refine wpAnyH_take (i := 10) (oi := ({ dst := some 108, op := Op.move (Operand.tmp 107), type := 4, pos := "ref.go:173", after := #[{ on := 9, ground := Ground.data }, { on := 7, ground := Ground.chain }], guard := none } : Oper)) (v := ?v11x10) rfl (by kernel_rfl) (by kernel_rfl) (by kernel_rfl) (fun _ _ _ h => h) (Or.inl ⟨by rfl, ?hy11x10⟩) hH1 ?_
                    case hy11x10 => ((intro w hSw); (try dsimp only at hSw); go_simp; try with_reducible rfl)
                    try simp only [Act.put, List.setIfInBounds_toArray, List.set_cons_zero, List.set_cons_succ]
                    refine wpAnyH_take (i := 11) (oi := ({ dst := some 109, op := Op.load 26 (Operand.tmp 2), type := 26, pos := "ref.go:173", after := #[{ on := 10, ground := Ground.guard }], guard := some (10, true) } : Oper)) (v := ?v11x11) rfl (by kernel_rfl) (by kernel_rfl) (by kernel_rfl) (fun _ _ _ h => h) (Or.inl ⟨by rfl, ?hy11x11⟩) hH1 ?_
                    case hy11x11 => ((intro w hSw); (try dsimp only at hSw); go_simp; try with_reducible rfl)
                    try simp only [Act.put, List.setIfInBounds_toArray, List.set_cons_zero, List.set_cons_succ]
                    refine wpAnyH_take (i := 12) (oi := ({ dst := some 110, op := Op.fieldAddr 26 (Operand.tmp 2) 6, type := 0, pos := "ref.go:173", after := #[{ on := 10, ground := Ground.guard }], guard := some (10, true) } : Oper)) (v := ?v11x12) rfl (by kernel_rfl) (by kernel_rfl) (by kernel_rfl) (fun _ _ _ h => h) (Or.inl ⟨by rfl, ?hy11x12⟩) hH1 ?_
                    case hy11x12 => ((intro w hSw); (try dsimp only at hSw); go_simp; try with_reducible rfl)
                    try simp only [Act.put, List.setIfInBounds_toArray, List.set_cons_zero, List.set_cons_succ]
                    refine wpAnyH_take (i := 13) (oi := ({ dst := some 111, op := Op.load 24 (Operand.tmp 110), type := 24, pos := "ref.go:173", after := #[{ on := 12, ground := Ground.data }, { on := 10, ground := Ground.guard }], guard := some (10, true) } : Oper)) (v := ?v11x13) rfl (by kernel_rfl) (by kernel_rfl) (by kernel_rfl) (fun _ _ _ h => h) (Or.inl ⟨by rfl, ?hy11x13⟩) hH1 ?_
                    case hy11x13 => ((intro w hSw); (try dsimp only at hSw); go_simp; try with_reducible rfl)
                    try simp only [Act.put, List.setIfInBounds_toArray, List.set_cons_zero, List.set_cons_succ]
                    refine wpAnyH_take (i := 14) (oi := ({ dst := some 112, op := Op.move (Operand.tmp 12), type := 3, pos := "ref.go:173", after := #[{ on := 10, ground := Ground.guard }], guard := some (10, true) } : Oper)) (v := ?v11x14) rfl (by kernel_rfl) (by kernel_rfl) (by kernel_rfl) (fun _ _ _ h => h) (Or.inl ⟨by rfl, ?hy11x14⟩) hH1 ?_
                    case hy11x14 => ((intro w hSw); (try dsimp only at hSw); go_simp; try with_reducible rfl)
                    try simp only [Act.put, List.setIfInBounds_toArray, List.set_cons_zero, List.set_cons_succ]
                    refine wpAnyH_take (i := 15) (oi := ({ dst := some 113, op := Op.indexAddr 24 (Operand.tmp 111) (Operand.tmp 112), type := 0, pos := "ref.go:173", after := #[{ on := 13, ground := Ground.data }, { on := 14, ground := Ground.data }, { on := 10, ground := Ground.guard }], guard := some (10, true) } : Oper)) (v := ?v11x15) rfl (by kernel_rfl) (by kernel_rfl) (by kernel_rfl) (fun _ _ _ h => h) (Or.inl ⟨by rfl, ?hy11x15⟩) hH1 ?_
                    case hy11x15 => ((intro w hSw); (try dsimp only at hSw); go_simp; try with_reducible rfl)
                    try simp only [Act.put, List.setIfInBounds_toArray, List.set_cons_zero, List.set_cons_succ]
                    refine wpAnyH_take (i := 16) (oi := ({ dst := some 114, op := Op.fieldAddr 38 (Operand.tmp 113) 2, type := 0, pos := "ref.go:173", after := #[{ on := 15, ground := Ground.data }, { on := 10, ground := Ground.guard }], guard := some (10, true) } : Oper)) (v := ?v11x16) rfl (by kernel_rfl) (by kernel_rfl) (by kernel_rfl) (fun _ _ _ h => h) (Or.inl ⟨by rfl, ?hy11x16⟩) hH1 ?_
                    case hy11x16 => ((intro w hSw); (try dsimp only at hSw); go_simp; try with_reducible rfl)
                    try simp only [Act.put, List.setIfInBounds_toArray, List.set_cons_zero, List.set_cons_succ]
                    refine wpAnyH_take (i := 17) (oi := ({ dst := some 115, op := Op.load 3 (Operand.tmp 114), type := 3, pos := "ref.go:173", after := #[{ on := 16, ground := Ground.data }, { on := 10, ground := Ground.guard }], guard := some (10, true) } : Oper)) (v := ?v11x17) rfl (by kernel_rfl) (by kernel_rfl) (by kernel_rfl) (fun _ _ _ h => h) (Or.inl ⟨by rfl, ?hy11x17⟩) hH1 ?_
                    case hy11x17 => ((intro w hSw); (try dsimp only at hSw); go_simp; try with_reducible rfl)
                    try simp only [Act.put, List.setIfInBounds_toArray, List.set_cons_zero, List.set_cons_succ]
                    refine wpAnyH_take (i := 19) (oi := ({ dst := some 117, op := Op.move (Operand.tmp 8), type := 9, pos := "ref.go:173", after := #[{ on := 10, ground := Ground.guard }], guard := some (10, true) } : Oper)) (v := ?v11x19) rfl (by kernel_rfl) (by kernel_rfl) (by kernel_rfl) (fun _ _ _ h => h) (Or.inl ⟨by rfl, ?hy11x19⟩) hH1 ?_
                    case hy11x19 => ((intro w hSw); (try dsimp only at hSw); go_simp; try with_reducible rfl)
                    try simp only [Act.put, List.setIfInBounds_toArray, List.set_cons_zero, List.set_cons_succ]
                    refine wpAnyH_ready (rs := [18]) (by kernel_rfl) (by simp) ?_
                    refine AllReadyH.cons (o := _) rfl (fun K hK => ?_) AllReadyH.nil
                    go_simp
                    go_at_call 32
                    refine (HX.out _ wz0 hH1.2.1 (by have := hH1.2.2.2.2.2.2.2.2.2.2.2.1; omega) _ TD2.out).mono ?_
                    rintro e wz1 ⟨rfl, hb1⟩
                    try go_wp2_with fail
                    have hF := FBox.below hH1.1 hb1 (FBox.lt hH1.1)
                    have hFA := FileAt.below hH1.2.1 hb1 (show B ≤ (wz0).heap.size by have := hH1.2.2.2.2.2.2.2.2.2.2.2.1; omega)
                    have hy1 := keepc hb1 (B := w.heap.size) hpw hH1.2.2.2.2.2.2.2.2.2.2.2.1 hH1.2.2.2.2.2.2.2.2.2.1
                    have hy2 := keepc hb1 (B := w.heap.size) hpw hH1.2.2.2.2.2.2.2.2.2.2.2.1 hH1.2.2.2.2.2.2.2.2.2.2.1
                    have hss := Nat.le_trans hH1.2.2.2.2.2.2.2.2.2.2.2.1 hb1.size
                    have hBE := Below.link hH1.2.2.2.2.2.2.2.2.2.2.2.2 hb1
                    obtain ⟨c0', c1', c2', c3', c4', c5', c6'⟩ := hF.cells
                    refine hK.out _ _ ⟨hF, hFA, c0', c1', c2', c3', c4', c5', c6', hy1, hy2, hss, hBE⟩ (fun hH2 => ?_)
                    clear hK K hH1 hF hFA hy1 hy2 hss hBE c0' c1' c2' c3' c4' c5' c6' hb1
                    try simp only [Act.put, List.setIfInBounds_toArray, List.set_cons_zero, List.set_cons_succ]
                    refine wpAnyH_take (i := 20) (oi := ({ dst := some 118, op := Op.binOp BinOp.eql 9 (Operand.tmp 116) (Operand.tmp 117) 9, type := 4, pos := "ref.go:173", after := #[{ on := 18, ground := Ground.data }, { on := 19, ground := Ground.data }, { on := 10, ground := Ground.guard }], guard := some (10, true) } : Oper)) (v := ?v11x20) rfl (by kernel_rfl) (by kernel_rfl) (by kernel_rfl) (fun _ _ _ h => h) (Or.inl ⟨by rfl, ?hy11x20⟩) hH2 ?_
                    case hy11x20 => ((intro w hSw); (try dsimp only at hSw); go_simp; try with_reducible rfl)
                    try simp only [Act.put, List.setIfInBounds_toArray, List.set_cons_zero, List.set_cons_succ]
                    refine wpAnyH_take (i := 21) (oi := ({ dst := some 119, op := Op.pick (Operand.tmp 108) (Operand.tmp 118) (Operand.const (Value.bool false)), type := 4, pos := "ref.go:173", after := #[{ on := 10, ground := Ground.data }, { on := 20, ground := Ground.data }], guard := none } : Oper)) (v := ?v11x21) rfl (by kernel_rfl) (by kernel_rfl) (by kernel_rfl) (fun _ _ _ h => h) (Or.inl ⟨by rfl, ?hy11x21⟩) hH2 ?_
                    case hy11x21 => ((intro w hSw); (try dsimp only at hSw); go_simp; try with_reducible rfl)
                    try simp only [Act.put, List.setIfInBounds_toArray, List.set_cons_zero, List.set_cons_succ]
                    refine wpAnyH_done (by kernel_rfl) ?_ _
                    have FLI := Lib.hid hH2.2.1
                    have BFI := Lib.hid hH2.1
                    have BEI := Lib.hid hH2.2.2.2.2.2.2.2.2.2.2.2.2
                    clear hH2 c0 c1 c2 c3 c4 c5 c6 y1 y2
                    go_wp2
                    go_roundg (gk - 1)
                    case measure => exact hgg
                    case rel => exact ⟨k + 1, by go_num, by omega, HNX.out.trans HF.out, FLI.out, BFI.out, BEI.out⟩
                  | true =>
                    have hs1 : ((textP f.pool d.nm).toList == (textP f.pool m.nm).toList) = true := (str_beq _ _).trans hn
                    have hs2 : ((textP f.pool d.ds).toList == (textP f.pool m.ds).toList) = true := (str_beq _ _).trans hn2
                    have HF := Lib.hid (show sameM f.pool d m = true by unfold sameM sameN sameD; rw [hn, hn2]; rfl)
                    have HRR := Lib.hid (show R = 15 by rw [HRL.out, HAL.out HF.out]; rfl)
                    clear hn hn2
                    go_wp2
                    refine wp_region_held_drew (S := (fun w' => FBox w.heap.size Ap cp Ai ci Af cf (some ⟨p0, o0, none⟩) cm f w' ∧ FileAt B w' (.agg #[.slice Ap f.pool.length cp, .int .i64 f.fl, .int .i64 f.this, .int .i64 f.super, .slice Ai f.ifs.length ci, .slice Af f.fds.length cf, .slice (some ⟨p0, o0, none⟩) f.mts.length cm]) f ∧ w'.cell? ⟨w.heap.size, 0, none⟩ = some (.slice Ap f.pool.length cp) ∧ w'.cell? ⟨w.heap.size, 1, none⟩ = some (.int .i64 f.fl) ∧ w'.cell? ⟨w.heap.size, 2, none⟩ = some (.int .i64 f.this) ∧ w'.cell? ⟨w.heap.size, 3, none⟩ = some (.int .i64 f.super) ∧ w'.cell? ⟨w.heap.size, 4, none⟩ = some (.slice Ai f.ifs.length ci) ∧ w'.cell? ⟨w.heap.size, 5, none⟩ = some (.slice Af f.fds.length cf) ∧ w'.cell? ⟨w.heap.size, 6, none⟩ = some (.slice (some ⟨p0, o0, none⟩) f.mts.length cm) ∧ w'.cell? ⟨p0, o0 + k * 7 + 1, none⟩ = some (.int .i64 d.nm) ∧ w'.cell? ⟨p0, o0 + k * 7 + 2, none⟩ = some (.int .i64 d.ds) ∧ w.heap.size ≤ w'.heap.size ∧ Below w.heap.size w w')) (by kernel_rfl) (⟨BF9.out.drew, FL9.out.drew, c0, c1, c2, c3, c4, c5, c6, y1, y2, hsz9, BE9.out.drew⟩) (fun hH => ?_)
                    refine wpAnyH_take (i := 0) (oi := ({ dst := some 98, op := Op.load 26 (Operand.tmp 2), type := 26, pos := "ref.go:173", after := #[], guard := none } : Oper)) (v := ?v12x0) rfl (by kernel_rfl) (by kernel_rfl) (by kernel_rfl) (fun _ _ _ h => h) (Or.inl ⟨by rfl, ?hy12x0⟩) hH ?_
                    case hy12x0 => ((intro w hSw); (try dsimp only at hSw); go_simp; try with_reducible rfl)
                    try simp only [Act.put, List.setIfInBounds_toArray, List.set_cons_zero, List.set_cons_succ]
                    refine wpAnyH_take (i := 1) (oi := ({ dst := some 99, op := Op.fieldAddr 26 (Operand.tmp 2) 6, type := 0, pos := "ref.go:173", after := #[], guard := none } : Oper)) (v := ?v12x1) rfl (by kernel_rfl) (by kernel_rfl) (by kernel_rfl) (fun _ _ _ h => h) (Or.inl ⟨by rfl, ?hy12x1⟩) hH ?_
                    case hy12x1 => ((intro w hSw); (try dsimp only at hSw); go_simp; try with_reducible rfl)
                    try simp only [Act.put, List.setIfInBounds_toArray, List.set_cons_zero, List.set_cons_succ]
                    refine wpAnyH_take (i := 2) (oi := ({ dst := some 100, op := Op.load 24 (Operand.tmp 99), type := 24, pos := "ref.go:173", after := #[{ on := 1, ground := Ground.data }], guard := none } : Oper)) (v := ?v12x2) rfl (by kernel_rfl) (by kernel_rfl) (by kernel_rfl) (fun _ _ _ h => h) (Or.inl ⟨by rfl, ?hy12x2⟩) hH ?_
                    case hy12x2 => ((intro w hSw); (try dsimp only at hSw); go_simp; try with_reducible rfl)
                    try simp only [Act.put, List.setIfInBounds_toArray, List.set_cons_zero, List.set_cons_succ]
                    refine wpAnyH_take (i := 3) (oi := ({ dst := some 101, op := Op.move (Operand.tmp 12), type := 3, pos := "ref.go:173", after := #[], guard := none } : Oper)) (v := ?v12x3) rfl (by kernel_rfl) (by kernel_rfl) (by kernel_rfl) (fun _ _ _ h => h) (Or.inl ⟨by rfl, ?hy12x3⟩) hH ?_
                    case hy12x3 => ((intro w hSw); (try dsimp only at hSw); go_simp; try with_reducible rfl)
                    try simp only [Act.put, List.setIfInBounds_toArray, List.set_cons_zero, List.set_cons_succ]
                    refine wpAnyH_take (i := 4) (oi := ({ dst := some 102, op := Op.indexAddr 24 (Operand.tmp 100) (Operand.tmp 101), type := 0, pos := "ref.go:173", after := #[{ on := 2, ground := Ground.data }, { on := 3, ground := Ground.data }], guard := none } : Oper)) (v := ?v12x4) rfl (by kernel_rfl) (by kernel_rfl) (by kernel_rfl) (fun _ _ _ h => h) (Or.inl ⟨by rfl, ?hy12x4⟩) hH ?_
                    case hy12x4 => ((intro w hSw); (try dsimp only at hSw); go_simp; try with_reducible rfl)
                    try simp only [Act.put, List.setIfInBounds_toArray, List.set_cons_zero, List.set_cons_succ]
                    refine wpAnyH_take (i := 5) (oi := ({ dst := some 103, op := Op.fieldAddr 38 (Operand.tmp 102) 1, type := 0, pos := "ref.go:173", after := #[{ on := 4, ground := Ground.data }], guard := none } : Oper)) (v := ?v12x5) rfl (by kernel_rfl) (by kernel_rfl) (by kernel_rfl) (fun _ _ _ h => h) (Or.inl ⟨by rfl, ?hy12x5⟩) hH ?_
                    case hy12x5 => ((intro w hSw); (try dsimp only at hSw); go_simp; try with_reducible rfl)
                    try simp only [Act.put, List.setIfInBounds_toArray, List.set_cons_zero, List.set_cons_succ]
                    refine wpAnyH_take (i := 6) (oi := ({ dst := some 104, op := Op.load 3 (Operand.tmp 103), type := 3, pos := "ref.go:173", after := #[{ on := 5, ground := Ground.data }], guard := none } : Oper)) (v := ?v12x6) rfl (by kernel_rfl) (by kernel_rfl) (by kernel_rfl) (fun _ _ _ h => h) (Or.inl ⟨by rfl, ?hy12x6⟩) hH ?_
                    case hy12x6 => ((intro w hSw); (try dsimp only at hSw); go_simp; try with_reducible rfl)
                    try simp only [Act.put, List.setIfInBounds_toArray, List.set_cons_zero, List.set_cons_succ]
                    refine wpAnyH_take (i := 8) (oi := ({ dst := some 106, op := Op.move (Operand.tmp 7), type := 9, pos := "ref.go:173", after := #[], guard := none } : Oper)) (v := ?v12x8) rfl (by kernel_rfl) (by kernel_rfl) (by kernel_rfl) (fun _ _ _ h => h) (Or.inl ⟨by rfl, ?hy12x8⟩) hH ?_
                    case hy12x8 => ((intro w hSw); (try dsimp only at hSw); go_simp; try with_reducible rfl)
                    try simp only [Act.put, List.setIfInBounds_toArray, List.set_cons_zero, List.set_cons_succ]
                    refine wpAnyH_ready (rs := [7]) (by kernel_rfl) (by simp) ?_
                    refine AllReadyH.cons (o := _) rfl (fun K hK => ?_) AllReadyH.nil
                    go_simp
                    go_at_call 32
                    refine (HX.out _ wr.drew hH.2.1 (by have := hH.2.2.2.2.2.2.2.2.2.2.2.1; omega) _ TD1.out).mono ?_
                    rintro e wz0 ⟨rfl, hb0⟩
                    try go_wp2_with fail
                    have hF := FBox.below hH.1 hb0 (FBox.lt hH.1)
                    have hFA := FileAt.below hH.2.1 hb0 (show B ≤ (wr.drew).heap.size by have := hH.2.2.2.2.2.2.2.2.2.2.2.1; omega)
                    have hy1 := keepc hb0 (B := w.heap.size) hpw hH.2.2.2.2.2.2.2.2.2.2.2.1 hH.2.2.2.2.2.2.2.2.2.1
                    have hy2 := keepc hb0 (B := w.heap.size) hpw hH.2.2.2.2.2.2.2.2.2.2.2.1 hH.2.2.2.2.2.2.2.2.2.2.1
                    have hss := Nat.le_trans hH.2.2.2.2.2.2.2.2.2.2.2.1 hb0.size
                    have hBE := Below.link hH.2.2.2.2.2.2.2.2.2.2.2.2 hb0
                    obtain ⟨c0', c1', c2', c3', c4', c5', c6'⟩ := hF.cells
                    refine hK.out _ _ ⟨hF, hFA, c0', c1', c2', c3', c4', c5', c6', hy1, hy2, hss, hBE⟩ (fun hH1 => ?_)
                    clear hK K hH hF hFA hy1 hy2 hss hBE c0' c1' c2' c3' c4' c5' c6' hb0
                    try simp only [Act.put, List.setIfInBounds_toArray, List.set_cons_zero, List.set_cons_succ]
                    refine wpAnyH_take (i := 9) (oi := ({ dst := some 107, op := Op.binOp BinOp.eql 9 (Operand.tmp 105) (Operand.tmp 106) 9, type := 4, pos := "ref.go:173", after := #[{ on := 7, ground := Ground.data }, { on := 8, ground := Ground.data }], guard := none } : Oper)) (v := ?v12x9) rfl (by kernel_rfl) (by kernel_rfl) (by kernel_rfl) (fun _ _ _ h => h) (Or.inl ⟨by rfl, ?hy12x9⟩) hH1 ?_
                    case hy12x9 => ((intro w hSw); (try dsimp only at hSw); go_simp; try with_reducible rfl)
                    try simp only [Act.put, List.setIfInBounds_toArray, List.set_cons_zero, List.set_cons_succ]
                    refine wpAnyH_take (i := 10) (oi := ({ dst := some 108, op := Op.move (Operand.tmp 107), type := 4, pos := "ref.go:173", after := #[{ on := 9, ground := Ground.data }, { on := 7, ground := Ground.chain }], guard := none } : Oper)) (v := ?v12x10) rfl (by kernel_rfl) (by kernel_rfl) (by kernel_rfl) (fun _ _ _ h => h) (Or.inl ⟨by rfl, ?hy12x10⟩) hH1 ?_
                    case hy12x10 => ((intro w hSw); (try dsimp only at hSw); go_simp; try with_reducible rfl)
                    try simp only [Act.put, List.setIfInBounds_toArray, List.set_cons_zero, List.set_cons_succ]
                    refine wpAnyH_take (i := 11) (oi := ({ dst := some 109, op := Op.load 26 (Operand.tmp 2), type := 26, pos := "ref.go:173", after := #[{ on := 10, ground := Ground.guard }], guard := some (10, true) } : Oper)) (v := ?v12x11) rfl (by kernel_rfl) (by kernel_rfl) (by kernel_rfl) (fun _ _ _ h => h) (Or.inl ⟨by rfl, ?hy12x11⟩) hH1 ?_
                    case hy12x11 => ((intro w hSw); (try dsimp only at hSw); go_simp; try with_reducible rfl)
                    try simp only [Act.put, List.setIfInBounds_toArray, List.set_cons_zero, List.set_cons_succ]
                    refine wpAnyH_take (i := 12) (oi := ({ dst := some 110, op := Op.fieldAddr 26 (Operand.tmp 2) 6, type := 0, pos := "ref.go:173", after := #[{ on := 10, ground := Ground.guard }], guard := some (10, true) } : Oper)) (v := ?v12x12) rfl (by kernel_rfl) (by kernel_rfl) (by kernel_rfl) (fun _ _ _ h => h) (Or.inl ⟨by rfl, ?hy12x12⟩) hH1 ?_
                    case hy12x12 => ((intro w hSw); (try dsimp only at hSw); go_simp; try with_reducible rfl)
                    try simp only [Act.put, List.setIfInBounds_toArray, List.set_cons_zero, List.set_cons_succ]
                    refine wpAnyH_take (i := 13) (oi := ({ dst := some 111, op := Op.load 24 (Operand.tmp 110), type := 24, pos := "ref.go:173", after := #[{ on := 12, ground := Ground.data }, { on := 10, ground := Ground.guard }], guard := some (10, true) } : Oper)) (v := ?v12x13) rfl (by kernel_rfl) (by kernel_rfl) (by kernel_rfl) (fun _ _ _ h => h) (Or.inl ⟨by rfl, ?hy12x13⟩) hH1 ?_
                    case hy12x13 => ((intro w hSw); (try dsimp only at hSw); go_simp; try with_reducible rfl)
                    try simp only [Act.put, List.setIfInBounds_toArray, List.set_cons_zero, List.set_cons_succ]
                    refine wpAnyH_take (i := 14) (oi := ({ dst := some 112, op := Op.move (Operand.tmp 12), type := 3, pos := "ref.go:173", after := #[{ on := 10, ground := Ground.guard }], guard := some (10, true) } : Oper)) (v := ?v12x14) rfl (by kernel_rfl) (by kernel_rfl) (by kernel_rfl) (fun _ _ _ h => h) (Or.inl ⟨by rfl, ?hy12x14⟩) hH1 ?_
                    case hy12x14 => ((intro w hSw); (try dsimp only at hSw); go_simp; try with_reducible rfl)
                    try simp only [Act.put, List.setIfInBounds_toArray, List.set_cons_zero, List.set_cons_succ]
                    refine wpAnyH_take (i := 15) (oi := ({ dst := some 113, op := Op.indexAddr 24 (Operand.tmp 111) (Operand.tmp 112), type := 0, pos := "ref.go:173", after := #[{ on := 13, ground := Ground.data }, { on := 14, ground := Ground.data }, { on := 10, ground := Ground.guard }], guard := some (10, true) } : Oper)) (v := ?v12x15) rfl (by kernel_rfl) (by kernel_rfl) (by kernel_rfl) (fun _ _ _ h => h) (Or.inl ⟨by rfl, ?hy12x15⟩) hH1 ?_
                    case hy12x15 => ((intro w hSw); (try dsimp only at hSw); go_simp; try with_reducible rfl)
                    try simp only [Act.put, List.setIfInBounds_toArray, List.set_cons_zero, List.set_cons_succ]
                    refine wpAnyH_take (i := 16) (oi := ({ dst := some 114, op := Op.fieldAddr 38 (Operand.tmp 113) 2, type := 0, pos := "ref.go:173", after := #[{ on := 15, ground := Ground.data }, { on := 10, ground := Ground.guard }], guard := some (10, true) } : Oper)) (v := ?v12x16) rfl (by kernel_rfl) (by kernel_rfl) (by kernel_rfl) (fun _ _ _ h => h) (Or.inl ⟨by rfl, ?hy12x16⟩) hH1 ?_
                    case hy12x16 => ((intro w hSw); (try dsimp only at hSw); go_simp; try with_reducible rfl)
                    try simp only [Act.put, List.setIfInBounds_toArray, List.set_cons_zero, List.set_cons_succ]
                    refine wpAnyH_take (i := 17) (oi := ({ dst := some 115, op := Op.load 3 (Operand.tmp 114), type := 3, pos := "ref.go:173", after := #[{ on := 16, ground := Ground.data }, { on := 10, ground := Ground.guard }], guard := some (10, true) } : Oper)) (v := ?v12x17) rfl (by kernel_rfl) (by kernel_rfl) (by kernel_rfl) (fun _ _ _ h => h) (Or.inl ⟨by rfl, ?hy12x17⟩) hH1 ?_
                    case hy12x17 => ((intro w hSw); (try dsimp only at hSw); go_simp; try with_reducible rfl)
                    try simp only [Act.put, List.setIfInBounds_toArray, List.set_cons_zero, List.set_cons_succ]
                    refine wpAnyH_take (i := 19) (oi := ({ dst := some 117, op := Op.move (Operand.tmp 8), type := 9, pos := "ref.go:173", after := #[{ on := 10, ground := Ground.guard }], guard := some (10, true) } : Oper)) (v := ?v12x19) rfl (by kernel_rfl) (by kernel_rfl) (by kernel_rfl) (fun _ _ _ h => h) (Or.inl ⟨by rfl, ?hy12x19⟩) hH1 ?_
                    case hy12x19 => ((intro w hSw); (try dsimp only at hSw); go_simp; try with_reducible rfl)
                    try simp only [Act.put, List.setIfInBounds_toArray, List.set_cons_zero, List.set_cons_succ]
                    refine wpAnyH_ready (rs := [18]) (by kernel_rfl) (by simp) ?_
                    refine AllReadyH.cons (o := _) rfl (fun K hK => ?_) AllReadyH.nil
                    go_simp
                    go_at_call 32
                    refine (HX.out _ wz0 hH1.2.1 (by have := hH1.2.2.2.2.2.2.2.2.2.2.2.1; omega) _ TD2.out).mono ?_
                    rintro e wz1 ⟨rfl, hb1⟩
                    try go_wp2_with fail
                    have hF := FBox.below hH1.1 hb1 (FBox.lt hH1.1)
                    have hFA := FileAt.below hH1.2.1 hb1 (show B ≤ (wz0).heap.size by have := hH1.2.2.2.2.2.2.2.2.2.2.2.1; omega)
                    have hy1 := keepc hb1 (B := w.heap.size) hpw hH1.2.2.2.2.2.2.2.2.2.2.2.1 hH1.2.2.2.2.2.2.2.2.2.1
                    have hy2 := keepc hb1 (B := w.heap.size) hpw hH1.2.2.2.2.2.2.2.2.2.2.2.1 hH1.2.2.2.2.2.2.2.2.2.2.1
                    have hss := Nat.le_trans hH1.2.2.2.2.2.2.2.2.2.2.2.1 hb1.size
                    have hBE := Below.link hH1.2.2.2.2.2.2.2.2.2.2.2.2 hb1
                    obtain ⟨c0', c1', c2', c3', c4', c5', c6'⟩ := hF.cells
                    refine hK.out _ _ ⟨hF, hFA, c0', c1', c2', c3', c4', c5', c6', hy1, hy2, hss, hBE⟩ (fun hH2 => ?_)
                    clear hK K hH1 hF hFA hy1 hy2 hss hBE c0' c1' c2' c3' c4' c5' c6' hb1
                    try simp only [Act.put, List.setIfInBounds_toArray, List.set_cons_zero, List.set_cons_succ]
                    refine wpAnyH_take (i := 20) (oi := ({ dst := some 118, op := Op.binOp BinOp.eql 9 (Operand.tmp 116) (Operand.tmp 117) 9, type := 4, pos := "ref.go:173", after := #[{ on := 18, ground := Ground.data }, { on := 19, ground := Ground.data }, { on := 10, ground := Ground.guard }], guard := some (10, true) } : Oper)) (v := ?v12x20) rfl (by kernel_rfl) (by kernel_rfl) (by kernel_rfl) (fun _ _ _ h => h) (Or.inl ⟨by rfl, ?hy12x20⟩) hH2 ?_
                    case hy12x20 => ((intro w hSw); (try dsimp only at hSw); go_simp; try with_reducible rfl)
                    try simp only [Act.put, List.setIfInBounds_toArray, List.set_cons_zero, List.set_cons_succ]
                    refine wpAnyH_take (i := 21) (oi := ({ dst := some 119, op := Op.pick (Operand.tmp 108) (Operand.tmp 118) (Operand.const (Value.bool false)), type := 4, pos := "ref.go:173", after := #[{ on := 10, ground := Ground.data }, { on := 20, ground := Ground.data }], guard := none } : Oper)) (v := ?v12x21) rfl (by kernel_rfl) (by kernel_rfl) (by kernel_rfl) (fun _ _ _ h => h) (Or.inl ⟨by rfl, ?hy12x21⟩) hH2 ?_
                    case hy12x21 => ((intro w hSw); (try dsimp only at hSw); go_simp; try with_reducible rfl)
                    try simp only [Act.put, List.setIfInBounds_toArray, List.set_cons_zero, List.set_cons_succ]
                    refine wpAnyH_done (by kernel_rfl) ?_ _
                    have FLI := Lib.hid hH2.2.1
                    have BFI := Lib.hid hH2.1
                    have BEI := Lib.hid hH2.2.2.2.2.2.2.2.2.2.2.2.2
                    clear hH2 c0 c1 c2 c3 c4 c5 c6 y1 y2
                    go_wp2
                    go_ret
                    exact ⟨ret_i HRR.out.symm, BEI.out⟩
              · have hki : k = i := by omega
                have HRR := Lib.hid (show R = 0 by rw [HRL.out, ← hki, HANY.out]; rfl)
                clear hki
                go_wp2
                go_ret
                exact ⟨ret_i HRR.out.symm, BE9.out⟩
    · clear hc
      have HFLZ := Lib.hid hz
      have gl1 : 0 ≤ m.fl := by omega
      have gl2 : m.fl ≤ 2 := by omega
      have g0 : (m.fl == 0) = false := by simp [hz]
      have g0' : (m.fl != 0) = true := by simp [hz]
      have g1 : (m.fl == 1) = false := by simp [hz]
      have g1' : (m.fl != 1) = true := by simp [hz]
      have g2 : (m.fl == 2) = true := by simp [hz]
      have g2' : (m.fl != 2) = false := by simp [hz]
      have HFL2 := Lib.hid hz
      clear hz
      rcases (Classical.em (E = 0)).symm with hE | hE
      · have HR1 := Lib.hid (show R = E by rw [HR.out, if_neg hE])
        have ge : (E == 0) = false := by simpa using hE
        have ge' : (E != 0) = true := by simpa using hE
        clear hE
        go_enter Try.func62, Try.ntmps62
        go_wp2_with fail
        refine (HNM.out _ _ FL0.out (Nat.le_trans hB BE0.out.size)).mono ?_
        rintro e w1 ⟨rfl, hb⟩
        have BE1 := Lib.hid (Below.link BE0.out hb)
        have FL1 := Lib.hid (FL0.out.below hb (Nat.le_trans hB BE0.out.size))
        have BF1 := Lib.hid (BF0.out.below hb BF0.out.lt)
        have ltBF1 := BF1.out.lt
        have BM1 := Lib.hid (BM0.out.below hb BM0.out.lt)
        have ltBM1 := BM1.out.lt
        clear hb
        obtain ⟨c0, c1, c2, c3, c4, c5, c6⟩ := BF1.out.cells
        obtain ⟨m0, m1, m2, m3, m4, m5, m6⟩ := BM1.out.cells
        go_wp2
        go_ret
        exact ⟨ret_i HR1.out.symm, BE1.out⟩
      subst hE
      obtain ⟨tg1, tg2⟩ := HTG.out rfl
      have T1 := Lib.hid tg1
      have T2 := Lib.hid tg2
      clear tg1 tg2
      obtain ⟨⟨xs, ⟨dd, rn⟩, vo, er⟩, hx⟩ : ∃ x, res (methL (L (textP f.pool m.ds))) = x := ⟨_, rfl⟩
      have HVB := Lib.hid (show voidB (textP f.pool m.ds) = vo by unfold voidB; rw [hx])
      rw [hx] at HM
      unfold sgV at HM
      simp only at HM
      clear hx
      go_enter Try.func62, Try.ntmps62
      go_wp2_with fail
      refine (HNM.out _ _ FL0.out (Nat.le_trans hB BE0.out.size)).mono ?_
      rintro e w1 ⟨rfl, hb⟩
      have BE1 := Lib.hid (Below.link BE0.out hb)
      have FL1 := Lib.hid (FL0.out.below hb (Nat.le_trans hB BE0.out.size))
      have BF1 := Lib.hid (BF0.out.below hb BF0.out.lt)
      have ltBF1 := BF1.out.lt
      have BM1 := Lib.hid (BM0.out.below hb BM0.out.lt)
      have ltBM1 := BM1.out.lt
      clear hb
      obtain ⟨c0, c1, c2, c3, c4, c5, c6⟩ := BF1.out.cells
      obtain ⟨m0, m1, m2, m3, m4, m5, m6⟩ := BM1.out.cells
      go_wp2_with fail
      refine (HX.out _ _ FL1.out (Nat.le_trans hB BE1.out.size) _ T1.out).mono ?_
      rintro e w2 ⟨rfl, hb⟩
      have BE2 := Lib.hid (Below.link BE1.out hb)
      have FL2 := Lib.hid (FL1.out.below hb (Nat.le_trans hB BE1.out.size))
      have BF2 := Lib.hid (BF1.out.below hb BF1.out.lt)
      have ltBF2 := BF2.out.lt
      have BM2 := Lib.hid (BM1.out.below hb BM1.out.lt)
      have ltBM2 := BM2.out.lt
      clear hb
      clear c0 c1 c2 c3 c4 c5 c6 m0 m1 m2 m3 m4 m5 m6
      obtain ⟨c0, c1, c2, c3, c4, c5, c6⟩ := BF2.out.cells
      obtain ⟨m0, m1, m2, m3, m4, m5, m6⟩ := BM2.out.cells
      go_wp2_with fail
      refine (HX.out _ _ FL2.out (Nat.le_trans hB BE2.out.size) _ T2.out).mono ?_
      rintro e w3 ⟨rfl, hb⟩
      have BE3 := Lib.hid (Below.link BE2.out hb)
      have FL3 := Lib.hid (FL2.out.below hb (Nat.le_trans hB BE2.out.size))
      have BF3 := Lib.hid (BF2.out.below hb BF2.out.lt)
      have ltBF3 := BF3.out.lt
      have BM3 := Lib.hid (BM2.out.below hb BM2.out.lt)
      have ltBM3 := BM3.out.lt
      clear hb
      clear c0 c1 c2 c3 c4 c5 c6 m0 m1 m2 m3 m4 m5 m6
      obtain ⟨c0, c1, c2, c3, c4, c5, c6⟩ := BF3.out.cells
      obtain ⟨m0, m1, m2, m3, m4, m5, m6⟩ := BM3.out.cells
      go_wp2_with fail
      refine (HM _).out.mono ?_
      rintro e w4 ⟨v4, rfl, own, hb⟩
      obtain ⟨a4, c4', rfl⟩ := own_form own
      clear own
      generalize xs.length = nx at *
      have BE4 := Lib.hid (Below.link BE3.out hb)
      have FL4 := Lib.hid (FL3.out.below hb (Nat.le_trans hB BE3.out.size))
      have BF4 := Lib.hid (BF3.out.below hb BF3.out.lt)
      have ltBF4 := BF4.out.lt
      have BM4 := Lib.hid (BM3.out.below hb BM3.out.lt)
      have ltBM4 := BM4.out.lt
      clear hb
      clear c0 c1 c2 c3 c4 c5 c6 m0 m1 m2 m3 m4 m5 m6
      obtain ⟨c0, c1, c2, c3, c4, c5, c6⟩ := BF4.out.cells
      obtain ⟨m0, m1, m2, m3, m4, m5, m6⟩ := BM4.out.cells
      have FL5 := Lib.hid (FL4.out.alloc (Nat.le_trans hB BE4.out.size) (.cells #[.slice a4 nx c4', .int .i64 dd, .string (mkB rn), .bool vo] 112))
      have BE5 := Lib.hid (BE4.out.alloc BE4.out.size (.cells #[.slice a4 nx c4', .int .i64 dd, .string (mkB rn), .bool vo] 112))
      have BF5 := Lib.hid (BF4.out.alloc (.cells #[.slice a4 nx c4', .int .i64 dd, .string (mkB rn), .bool vo] 112))
      have BM5 := Lib.hid (BM4.out.alloc (.cells #[.slice a4 nx c4', .int .i64 dd, .string (mkB rn), .bool vo] 112))
      by_cases hi1 : textP f.pool m.nm = initN
      · have hc1 : ¬ textP f.pool m.nm = clinitN := by rw [hi1]; decide
        have HSP := Lib.hid (show specE f.pool m = 10 by unfold specE; rw [if_pos hi1, if_neg (fun h => absurd h.1 (by rw [HFLZ.out]; decide))])
        have e1 : ((textP f.pool m.nm).toList == [60, 105, 110, 105, 116, 62]) = true := beq_lit _ initN _ (toList_data initN) _ (by simpa using hi1)
        have e2 : ((textP f.pool m.nm).toList == [60, 99, 108, 105, 110, 105, 116, 62]) = false := beq_lit _ clinitN _ (toList_data clinitN) _ (by simpa using hc1)
        clear hi1 hc1
        have HRR := Lib.hid (show R = 10 by have h := HR.out; rw [HSP.out] at h; simpa using h)
        go_wp2
        go_ret
        exact ⟨ret_i HRR.out.symm, BE5.out⟩
      · by_cases hc1 : textP f.pool m.nm = clinitN
        · have HSP := Lib.hid (show specE f.pool m = 10 by unfold specE; rw [if_neg hi1, if_pos hc1, if_neg (fun h => absurd h.1 (by rw [HFLZ.out]; decide))])
          have e1 : ((textP f.pool m.nm).toList == [60, 105, 110, 105, 116, 62]) = false := beq_lit _ initN _ (toList_data initN) _ (by simpa using hi1)
          have e2 : ((textP f.pool m.nm).toList == [60, 99, 108, 105, 110, 105, 116, 62]) = true := beq_lit _ clinitN _ (toList_data clinitN) _ (by simpa using hc1)
          clear hi1 hc1
          have HRR := Lib.hid (show R = 10 by have h := HR.out; rw [HSP.out] at h; simpa using h)
          go_wp2
          go_ret
          exact ⟨ret_i HRR.out.symm, BE5.out⟩
        · have HSP := Lib.hid (show specE f.pool m = 0 by unfold specE; rw [if_neg hi1, if_neg hc1])
          have e1 : ((textP f.pool m.nm).toList == [60, 105, 110, 105, 116, 62]) = false := beq_lit _ initN _ (toList_data initN) _ (by simpa using hi1)
          have e2 : ((textP f.pool m.nm).toList == [60, 99, 108, 105, 110, 105, 116, 62]) = false := beq_lit _ clinitN _ (toList_data clinitN) _ (by simpa using hc1)
          clear hi1 hc1
          have HBD := Lib.hid (show bodyE f.pool m = if bareB m = true then 0 else 1 by unfold bodyE extraE; rw [if_pos HFL2.out])
          cases hbr : bareB m with
          | false =>
            have HRR := Lib.hid (show R = 1 by have h := HR.out; rw [HSP.out, HBD.out, hbr] at h; simpa using h)
            rw [hbr] at HBR
            clear hbr
            go_wp2_with fail
            refine (HBR.out _).mono ?_
            rintro e w6 ⟨rfl, hb⟩
            have BE6 := Lib.hid (Below.link BE5.out hb)
            have FL6 := Lib.hid (FL5.out.below hb (Nat.le_trans hB BE5.out.size))
            have BF6 := Lib.hid (BF5.out.below hb BF5.out.lt)
            have ltBF6 := BF6.out.lt
            have BM6 := Lib.hid (BM5.out.below hb BM5.out.lt)
            have ltBM6 := BM6.out.lt
            clear hb
            clear c0 c1 c2 c3 c4 c5 c6 m0 m1 m2 m3 m4 m5 m6
            obtain ⟨c0, c1, c2, c3, c4, c5, c6⟩ := BF6.out.cells
            obtain ⟨m0, m1, m2, m3, m4, m5, m6⟩ := BM6.out.cells
            go_wp2
            go_ret
            exact ⟨ret_i HRR.out.symm, BE6.out⟩
          | true =>
            have HRL := Lib.hid (show R = (if (f.mts.take i).any (fun d => sameM f.pool d m) = true then 15 else 0) by have h := HR.out; rw [HSP.out, HBD.out, hbr] at h; simpa using h)
            rw [hbr] at HBR
            clear hbr
            go_wp2_with fail
            refine (HBR.out _).mono ?_
            rintro e w6 ⟨rfl, hb⟩
            have BE6 := Lib.hid (Below.link BE5.out hb)
            have FL6 := Lib.hid (FL5.out.below hb (Nat.le_trans hB BE5.out.size))
            have BF6 := Lib.hid (BF5.out.below hb BF5.out.lt)
            have ltBF6 := BF6.out.lt
            have BM6 := Lib.hid (BM5.out.below hb BM5.out.lt)
            have ltBM6 := BM6.out.lt
            clear hb
            clear c0 c1 c2 c3 c4 c5 c6 m0 m1 m2 m3 m4 m5 m6
            obtain ⟨c0, c1, c2, c3, c4, c5, c6⟩ := BF6.out.cells
            obtain ⟨m0, m1, m2, m3, m4, m5, m6⟩ := BM6.out.cells
            go_wp2
            go_loopg [12] i (fun g iv wx => ∃ k : Nat, iv = .int .i64 k ∧ k + g = i ∧ (f.mts.take k).any (fun d => sameM f.pool d m) = false ∧ FileAt B wx (.agg #[.slice Ap f.pool.length cp, .int .i64 f.fl, .int .i64 f.this, .int .i64 f.super, .slice Ai f.ifs.length ci, .slice Af f.fds.length cf, .slice (some ⟨p0, o0, none⟩) f.mts.length cm]) f ∧ FBox w.heap.size Ap cp Ai ci Af cf (some ⟨p0, o0, none⟩) cm f wx ∧ Below w.heap.size w wx)
            case atStart => exact ⟨0, rfl, by omega, by simp, FL6.out, BF6.out, BE6.out⟩
            case round =>
              obtain ⟨k, rfl, hkg, hany, hfl, hbf, hbe⟩ := hrel
              have HANY := Lib.hid hany
              have FL9 := Lib.hid hfl
              have BF9 := Lib.hid hbf
              have BE9 := Lib.hid hbe
              have ltBF9 := hbf.lt
              clear hany hfl hbf hbe c0 c1 c2 c3 c4 c5 c6 m0 m1 m2 m3 m4 m5 m6
              obtain ⟨c0, c1, c2, c3, c4, c5, c6⟩ := BF9.out.cells
              by_cases hlt : k < i
              · have hgg : gk - 1 < gk := by omega
                obtain ⟨d, hd⟩ : ∃ d, f.mts[k]? = some d := ⟨_, List.getElem?_eq_getElem (by omega)⟩
                have TD1 := Lib.hid (HP.out k d hlt hd).1
                have TD2 := Lib.hid (HP.out k d hlt hd).2
                have HNX := Lib.hid (any_next (g := fun d => sameM f.pool d m) hd HANY.out)
                have HAL := Lib.hid (fun h => any_later (g := fun d => sameM f.pool d m) hd hlt h)
                have hI3 := HI.out.keep (w' := wr) (fun p hp => BE9.out.cell (p := p) (by omega))
                obtain ⟨p1, o1, A3, c3', e1, hb1, hrow1, -, y1, y2, -, -, -, -⟩ := hI3.mts.at_ hd
                injection e1 with e1
                injection e1 with e2 e3 e4
                subst e2 e3
                have hwk2 : IntKind.i64.wrap (k : Int) = k := IntWalk.i64_in _ (by omega)
                have hlk : (k : Int) < f.mts.length := by omega
                have hpw : p0 < w.heap.size := by omega
                have hsz9 : w.heap.size ≤ wr.heap.size := by omega
                clear hd hI3 hrow1 e4
                cases hn : decide (textP f.pool d.nm = textP f.pool m.nm) with
                | false =>
                  have hs1 : ((textP f.pool d.nm).toList == (textP f.pool m.nm).toList) = false := (str_beq _ _).trans hn
                  have HF := Lib.hid (show sameM f.pool d m = false by unfold sameM sameN; rw [hn]; rfl)
                  clear hn
                  go_wp2
                  refine wp_region_held_drew (S := (fun w' => FBox w.heap.size Ap cp Ai ci Af cf (some ⟨p0, o0, none⟩) cm f w' ∧ FileAt B w' (.agg #[.slice Ap f.pool.length cp, .int .i64 f.fl, .int .i64 f.this, .int .i64 f.super, .slice Ai f.ifs.length ci, .slice Af f.fds.length cf, .slice (some ⟨p0, o0, none⟩) f.mts.length cm]) f ∧ w'.cell? ⟨w.heap.size, 0, none⟩ = some (.slice Ap f.pool.length cp) ∧ w'.cell? ⟨w.heap.size, 1, none⟩ = some (.int .i64 f.fl) ∧ w'.cell? ⟨w.heap.size, 2, none⟩ = some (.int .i64 f.this) ∧ w'.cell? ⟨w.heap.size, 3, none⟩ = some (.int .i64 f.super) ∧ w'.cell? ⟨w.heap.size, 4, none⟩ = some (.slice Ai f.ifs.length ci) ∧ w'.cell? ⟨w.heap.size, 5, none⟩ = some (.slice Af f.fds.length cf) ∧ w'.cell? ⟨w.heap.size, 6, none⟩ = some (.slice (some ⟨p0, o0, none⟩) f.mts.length cm) ∧ w'.cell? ⟨p0, o0 + k * 7 + 1, none⟩ = some (.int .i64 d.nm) ∧ w'.cell? ⟨p0, o0 + k * 7 + 2, none⟩ = some (.int .i64 d.ds) ∧ w.heap.size ≤ w'.heap.size ∧ Below w.heap.size w w')) (by kernel_rfl) (⟨BF9.out.drew, FL9.out.drew, c0, c1, c2, c3, c4, c5, c6, y1, y2, hsz9, BE9.out.drew⟩) (fun hH => ?_)
                  refine wpAnyH_take (i := 0) (oi := ({ dst := some 98, op := Op.load 26 (Operand.tmp 2), type := 26, pos := "ref.go:173", after := #[], guard := none } : Oper)) (v := ?v13x0) rfl (by kernel_rfl) (by kernel_rfl) (by kernel_rfl) (fun _ _ _ h => h) (Or.inl ⟨by rfl, ?hy13x0⟩) hH ?_
                  case hy13x0 => ((intro w hSw); (try dsimp only at hSw); go_simp; try with_reducible rfl)
                  try simp only [Act.put, List.setIfInBounds_toArray, List.set_cons_zero, List.set_cons_succ]
                  refine wpAnyH_take (i := 1) (oi := ({ dst := some 99, op := Op.fieldAddr 26 (Operand.tmp 2) 6, type := 0, pos := "ref.go:173", after := #[], guard := none } : Oper)) (v := ?v13x1) rfl (by kernel_rfl) (by kernel_rfl) (by kernel_rfl) (fun _ _ _ h => h) (Or.inl ⟨by rfl, ?hy13x1⟩) hH ?_
                  case hy13x1 => ((intro w hSw); (try dsimp only at hSw); go_simp; try with_reducible rfl)
                  try simp only [Act.put, List.setIfInBounds_toArray, List.set_cons_zero, List.set_cons_succ]
                  refine wpAnyH_take (i := 2) (oi := ({ dst := some 100, op := Op.load 24 (Operand.tmp 99), type := 24, pos := "ref.go:173", after := #[{ on := 1, ground := Ground.data }], guard := none } : Oper)) (v := ?v13x2) rfl (by kernel_rfl) (by kernel_rfl) (by kernel_rfl) (fun _ _ _ h => h) (Or.inl ⟨by rfl, ?hy13x2⟩) hH ?_
                  case hy13x2 => ((intro w hSw); (try dsimp only at hSw); go_simp; try with_reducible rfl)
                  try simp only [Act.put, List.setIfInBounds_toArray, List.set_cons_zero, List.set_cons_succ]
                  refine wpAnyH_take (i := 3) (oi := ({ dst := some 101, op := Op.move (Operand.tmp 12), type := 3, pos := "ref.go:173", after := #[], guard := none } : Oper)) (v := ?v13x3) rfl (by kernel_rfl) (by kernel_rfl) (by kernel_rfl) (fun _ _ _ h => h) (Or.inl ⟨by rfl, ?hy13x3⟩) hH ?_
                  case hy13x3 => ((intro w hSw); (try dsimp only at hSw); go_simp; try with_reducible rfl)
                  try simp only [Act.put, List.setIfInBounds_toArray, List.set_cons_zero, List.set_cons_succ]
                  refine wpAnyH_take (i := 4) (oi := ({ dst := some 102, op := Op.indexAddr 24 (Operand.tmp 100) (Operand.tmp 101), type := 0, pos := "ref.go:173", after := #[{ on := 2, ground := Ground.data }, { on := 3, ground := Ground.data }], guard := none } : Oper)) (v := ?v13x4) rfl (by kernel_rfl) (by kernel_rfl) (by kernel_rfl) (fun _ _ _ h => h) (Or.inl ⟨by rfl, ?hy13x4⟩) hH ?_
                  case hy13x4 => ((intro w hSw); (try dsimp only at hSw); go_simp; try with_reducible rfl)
                  try simp only [Act.put, List.setIfInBounds_toArray, List.set_cons_zero, List.set_cons_succ]
                  refine wpAnyH_take (i := 5) (oi := ({ dst := some 103, op := Op.fieldAddr 38 (Operand.tmp 102) 1, type := 0, pos := "ref.go:173", after := #[{ on := 4, ground := Ground.data }], guard := none } : Oper)) (v := ?v13x5) rfl (by kernel_rfl) (by kernel_rfl) (by kernel_rfl) (fun _ _ _ h => h) (Or.inl ⟨by rfl, ?hy13x5⟩) hH ?_
                  case hy13x5 => ((intro w hSw); (try dsimp only at hSw); go_simp; try with_reducible rfl)
                  try simp only [Act.put, List.setIfInBounds_toArray, List.set_cons_zero, List.set_cons_succ]
                  refine wpAnyH_take (i := 6) (oi := ({ dst := some 104, op := Op.load 3 (Operand.tmp 103), type := 3, pos := "ref.go:173", after := #[{ on := 5, ground := Ground.data }], guard := none } : Oper)) (v := ?v13x6) rfl (by kernel_rfl) (by kernel_rfl) (by kernel_rfl) (fun _ _ _ h => h) (Or.inl ⟨by rfl, ?hy13x6⟩) hH ?_
                  case hy13x6 => ((intro w hSw); (try dsimp only at hSw); go_simp; try with_reducible rfl)
                  try simp only [Act.put, List.setIfInBounds_toArray, List.set_cons_zero, List.set_cons_succ]
                  refine wpAnyH_take (i := 8) (oi := ({ dst := some 106, op := Op.move (Operand.tmp 7), type := 9, pos := "ref.go:173", after := #[], guard := none } : Oper)) (v := ?v13x8) rfl (by kernel_rfl) (by kernel_rfl) (by kernel_rfl) (fun _ _ _ h => h) (Or.inl ⟨by rfl, ?hy13x8⟩) hH ?_
                  case hy13x8 => ((intro w hSw); (try dsimp only at hSw); go_simp; try with_reducible rfl)
                  try simp only [Act.put, List.setIfInBounds_toArray, List.set_cons_zero, List.set_cons_succ]
                  refine wpAnyH_ready (rs := [7]) (by kernel_rfl) (by simp) ?_
                  refine AllReadyH.cons (o := _) rfl (fun K hK => ?_) AllReadyH.nil
                  go_simp
                  go_at_call 32
                  refine (HX.out _ wr.drew hH.2.1 (by have := hH.2.2.2.2.2.2.2.2.2.2.2.1; omega) _ TD1.out).mono ?_
                  rintro e wz0 ⟨rfl, hb0⟩
                  try go_wp2_with fail
                  have hF := FBox.below hH.1 hb0 (FBox.lt hH.1)
                  have hFA := FileAt.below hH.2.1 hb0 (show B ≤ (wr.drew).heap.size by have := hH.2.2.2.2.2.2.2.2.2.2.2.1; omega)
                  have hy1 := keepc hb0 (B := w.heap.size) hpw hH.2.2.2.2.2.2.2.2.2.2.2.1 hH.2.2.2.2.2.2.2.2.2.1
                  have hy2 := keepc hb0 (B := w.heap.size) hpw hH.2.2.2.2.2.2.2.2.2.2.2.1 hH.2.2.2.2.2.2.2.2.2.2.1
                  have hss := Nat.le_trans hH.2.2.2.2.2.2.2.2.2.2.2.1 hb0.size
                  have hBE := Below.link hH.2.2.2.2.2.2.2.2.2.2.2.2 hb0
                  obtain ⟨c0', c1', c2', c3', c4', c5', c6'⟩ := hF.cells
                  refine hK.out _ _ ⟨hF, hFA, c0', c1', c2', c3', c4', c5', c6', hy1, hy2, hss, hBE⟩ (fun hH1 => ?_)
                  clear hK K hH hF hFA hy1 hy2 hss hBE c0' c1' c2' c3' c4' c5' c6' hb0
                  try simp only [Act.put, List.setIfInBounds_toArray, List.set_cons_zero, List.set_cons_succ]
                  refine wpAnyH_take (i := 9) (oi := ({ dst := some 107, op := Op.binOp BinOp.eql 9 (Operand.tmp 105) (Operand.tmp 106) 9, type := 4, pos := "ref.go:173", after := #[{ on := 7, ground := Ground.data }, { on := 8, ground := Ground.data }], guard := none } : Oper)) (v := ?v13x9) rfl (by kernel_rfl) (by kernel_rfl) (by kernel_rfl) (fun _ _ _ h => h) (Or.inl ⟨by rfl, ?hy13x9⟩) hH1 ?_
                  case hy13x9 => ((intro w hSw); (try dsimp only at hSw); go_simp; try with_reducible rfl)
                  try simp only [Act.put, List.setIfInBounds_toArray, List.set_cons_zero, List.set_cons_succ]
                  refine wpAnyH_take (i := 10) (oi := ({ dst := some 108, op := Op.move (Operand.tmp 107), type := 4, pos := "ref.go:173", after := #[{ on := 9, ground := Ground.data }, { on := 7, ground := Ground.chain }], guard := none } : Oper)) (v := ?v13x10) rfl (by kernel_rfl) (by kernel_rfl) (by kernel_rfl) (fun _ _ _ h => h) (Or.inl ⟨by rfl, ?hy13x10⟩) hH1 ?_
                  case hy13x10 => ((intro w hSw); (try dsimp only at hSw); go_simp; try with_reducible rfl)
                  try simp only [Act.put, List.setIfInBounds_toArray, List.set_cons_zero, List.set_cons_succ]
                  refine wpAnyH_take (i := 11) (oi := ({ dst := some 109, op := Op.load 26 (Operand.tmp 2), type := 26, pos := "ref.go:173", after := #[{ on := 10, ground := Ground.guard }], guard := some (10, true) } : Oper)) (v := undef) rfl (by kernel_rfl) (by kernel_rfl) (by kernel_rfl) (fun _ _ _ h => h) (Or.inr ⟨by rfl, rfl⟩) hH1 ?_
                  try simp only [Act.put, List.setIfInBounds_toArray, List.set_cons_zero, List.set_cons_succ]
                  refine wpAnyH_take (i := 12) (oi := ({ dst := some 110, op := Op.fieldAddr 26 (Operand.tmp 2) 6, type := 0, pos := "ref.go:173", after := #[{ on := 10, ground := Ground.guard }], guard := some (10, true) } : Oper)) (v := undef) rfl (by kernel_rfl) (by kernel_rfl) (by kernel_rfl) (fun _ _ _ h => h) (Or.inr ⟨by rfl, rfl⟩) hH1 ?_
                  try simp only [Act.put, List.setIfInBounds_toArray, List.set_cons_zero, List.set_cons_succ]
                  refine wpAnyH_take (i := 13) (oi := ({ dst := some 111, op := Op.load 24 (Operand.tmp 110), type := 24, pos := "ref.go:173", after := #[{ on := 12, ground := Ground.data }, { on := 10, ground := Ground.guard }], guard := some (10, true) } : Oper)) (v := undef) rfl (by kernel_rfl) (by kernel_rfl) (by kernel_rfl) (fun _ _ _ h => h) (Or.inr ⟨by rfl, rfl⟩) hH1 ?_
                  try simp only [Act.put, List.setIfInBounds_toArray, List.set_cons_zero, List.set_cons_succ]
                  refine wpAnyH_take (i := 14) (oi := ({ dst := some 112, op := Op.move (Operand.tmp 12), type := 3, pos := "ref.go:173", after := #[{ on := 10, ground := Ground.guard }], guard := some (10, true) } : Oper)) (v := undef) rfl (by kernel_rfl) (by kernel_rfl) (by kernel_rfl) (fun _ _ _ h => h) (Or.inr ⟨by rfl, rfl⟩) hH1 ?_
                  try simp only [Act.put, List.setIfInBounds_toArray, List.set_cons_zero, List.set_cons_succ]
                  refine wpAnyH_take (i := 15) (oi := ({ dst := some 113, op := Op.indexAddr 24 (Operand.tmp 111) (Operand.tmp 112), type := 0, pos := "ref.go:173", after := #[{ on := 13, ground := Ground.data }, { on := 14, ground := Ground.data }, { on := 10, ground := Ground.guard }], guard := some (10, true) } : Oper)) (v := undef) rfl (by kernel_rfl) (by kernel_rfl) (by kernel_rfl) (fun _ _ _ h => h) (Or.inr ⟨by rfl, rfl⟩) hH1 ?_
                  try simp only [Act.put, List.setIfInBounds_toArray, List.set_cons_zero, List.set_cons_succ]
                  refine wpAnyH_take (i := 16) (oi := ({ dst := some 114, op := Op.fieldAddr 38 (Operand.tmp 113) 2, type := 0, pos := "ref.go:173", after := #[{ on := 15, ground := Ground.data }, { on := 10, ground := Ground.guard }], guard := some (10, true) } : Oper)) (v := undef) rfl (by kernel_rfl) (by kernel_rfl) (by kernel_rfl) (fun _ _ _ h => h) (Or.inr ⟨by rfl, rfl⟩) hH1 ?_
                  try simp only [Act.put, List.setIfInBounds_toArray, List.set_cons_zero, List.set_cons_succ]
                  refine wpAnyH_take (i := 17) (oi := ({ dst := some 115, op := Op.load 3 (Operand.tmp 114), type := 3, pos := "ref.go:173", after := #[{ on := 16, ground := Ground.data }, { on := 10, ground := Ground.guard }], guard := some (10, true) } : Oper)) (v := undef) rfl (by kernel_rfl) (by kernel_rfl) (by kernel_rfl) (fun _ _ _ h => h) (Or.inr ⟨by rfl, rfl⟩) hH1 ?_
                  try simp only [Act.put, List.setIfInBounds_toArray, List.set_cons_zero, List.set_cons_succ]
                  refine wpAnyH_take (i := 18) (oi := ({ dst := some 116, op := Op.call { callee := Callee.value (Operand.func 32), args := #[Operand.tmp 109, Operand.tmp 115], argTypes := #[26, 3] }, type := 9, pos := "ref.go:173", after := #[{ on := 11, ground := Ground.data }, { on := 17, ground := Ground.data }, { on := 10, ground := Ground.chain }, { on := 10, ground := Ground.guard }], guard := some (10, true) } : Oper)) (v := undef) rfl (by kernel_rfl) (by kernel_rfl) (by kernel_rfl) (fun _ _ _ h => h) (Or.inr ⟨by rfl, rfl⟩) hH1 ?_
                  try simp only [Act.put, List.setIfInBounds_toArray, List.set_cons_zero, List.set_cons_succ]
                  refine wpAnyH_take (i := 19) (oi := ({ dst := some 117, op := Op.move (Operand.tmp 8), type := 9, pos := "ref.go:173", after := #[{ on := 10, ground := Ground.guard }], guard := some (10, true) } : Oper)) (v := undef) rfl (by kernel_rfl) (by kernel_rfl) (by kernel_rfl) (fun _ _ _ h => h) (Or.inr ⟨by rfl, rfl⟩) hH1 ?_
                  try simp only [Act.put, List.setIfInBounds_toArray, List.set_cons_zero, List.set_cons_succ]
                  refine wpAnyH_take (i := 20) (oi := ({ dst := some 118, op := Op.binOp BinOp.eql 9 (Operand.tmp 116) (Operand.tmp 117) 9, type := 4, pos := "ref.go:173", after := #[{ on := 18, ground := Ground.data }, { on := 19, ground := Ground.data }, { on := 10, ground := Ground.guard }], guard := some (10, true) } : Oper)) (v := undef) rfl (by kernel_rfl) (by kernel_rfl) (by kernel_rfl) (fun _ _ _ h => h) (Or.inr ⟨by rfl, rfl⟩) hH1 ?_
                  try simp only [Act.put, List.setIfInBounds_toArray, List.set_cons_zero, List.set_cons_succ]
                  refine wpAnyH_take (i := 21) (oi := ({ dst := some 119, op := Op.pick (Operand.tmp 108) (Operand.tmp 118) (Operand.const (Value.bool false)), type := 4, pos := "ref.go:173", after := #[{ on := 10, ground := Ground.data }, { on := 20, ground := Ground.data }], guard := none } : Oper)) (v := ?v13x21) rfl (by kernel_rfl) (by kernel_rfl) (by kernel_rfl) (fun _ _ _ h => h) (Or.inl ⟨by rfl, ?hy13x21⟩) hH1 ?_
                  case hy13x21 => ((intro w hSw); (try dsimp only at hSw); go_simp; try with_reducible rfl)
                  try simp only [Act.put, List.setIfInBounds_toArray, List.set_cons_zero, List.set_cons_succ]
                  refine wpAnyH_done (by kernel_rfl) ?_ _
                  have FLI := Lib.hid hH1.2.1
                  have BFI := Lib.hid hH1.1
                  have BEI := Lib.hid hH1.2.2.2.2.2.2.2.2.2.2.2.2
                  clear hH1 c0 c1 c2 c3 c4 c5 c6 y1 y2
                  go_wp2
                  go_roundg (gk - 1)
                  case measure => exact hgg
                  case rel => exact ⟨k + 1, by go_num, by omega, HNX.out.trans HF.out, FLI.out, BFI.out, BEI.out⟩
                | true =>
                  cases hn2 : decide (textP f.pool d.ds = textP f.pool m.ds) with
                  | false =>
                    have hs1 : ((textP f.pool d.nm).toList == (textP f.pool m.nm).toList) = true := (str_beq _ _).trans hn
                    have hs2 : ((textP f.pool d.ds).toList == (textP f.pool m.ds).toList) = false := (str_beq _ _).trans hn2
                    have HF := Lib.hid (show sameM f.pool d m = false by unfold sameM sameN sameD; rw [hn, hn2]; rfl)
                    clear hn hn2
                    go_wp2
                    refine wp_region_held_drew (S := (fun w' => FBox w.heap.size Ap cp Ai ci Af cf (some ⟨p0, o0, none⟩) cm f w' ∧ FileAt B w' (.agg #[.slice Ap f.pool.length cp, .int .i64 f.fl, .int .i64 f.this, .int .i64 f.super, .slice Ai f.ifs.length ci, .slice Af f.fds.length cf, .slice (some ⟨p0, o0, none⟩) f.mts.length cm]) f ∧ w'.cell? ⟨w.heap.size, 0, none⟩ = some (.slice Ap f.pool.length cp) ∧ w'.cell? ⟨w.heap.size, 1, none⟩ = some (.int .i64 f.fl) ∧ w'.cell? ⟨w.heap.size, 2, none⟩ = some (.int .i64 f.this) ∧ w'.cell? ⟨w.heap.size, 3, none⟩ = some (.int .i64 f.super) ∧ w'.cell? ⟨w.heap.size, 4, none⟩ = some (.slice Ai f.ifs.length ci) ∧ w'.cell? ⟨w.heap.size, 5, none⟩ = some (.slice Af f.fds.length cf) ∧ w'.cell? ⟨w.heap.size, 6, none⟩ = some (.slice (some ⟨p0, o0, none⟩) f.mts.length cm) ∧ w'.cell? ⟨p0, o0 + k * 7 + 1, none⟩ = some (.int .i64 d.nm) ∧ w'.cell? ⟨p0, o0 + k * 7 + 2, none⟩ = some (.int .i64 d.ds) ∧ w.heap.size ≤ w'.heap.size ∧ Below w.heap.size w w')) (by kernel_rfl) (⟨BF9.out.drew, FL9.out.drew, c0, c1, c2, c3, c4, c5, c6, y1, y2, hsz9, BE9.out.drew⟩) (fun hH => ?_)
                    refine wpAnyH_take (i := 0) (oi := ({ dst := some 98, op := Op.load 26 (Operand.tmp 2), type := 26, pos := "ref.go:173", after := #[], guard := none } : Oper)) (v := ?v14x0) rfl (by kernel_rfl) (by kernel_rfl) (by kernel_rfl) (fun _ _ _ h => h) (Or.inl ⟨by rfl, ?hy14x0⟩) hH ?_
                    case hy14x0 => ((intro w hSw); (try dsimp only at hSw); go_simp; try with_reducible rfl)
                    try simp only [Act.put, List.setIfInBounds_toArray, List.set_cons_zero, List.set_cons_succ]
                    refine wpAnyH_take (i := 1) (oi := ({ dst := some 99, op := Op.fieldAddr 26 (Operand.tmp 2) 6, type := 0, pos := "ref.go:173", after := #[], guard := none } : Oper)) (v := ?v14x1) rfl (by kernel_rfl) (by kernel_rfl) (by kernel_rfl) (fun _ _ _ h => h) (Or.inl ⟨by rfl, ?hy14x1⟩) hH ?_
                    case hy14x1 => ((intro w hSw); (try dsimp only at hSw); go_simp; try with_reducible rfl)
                    try simp only [Act.put, List.setIfInBounds_toArray, List.set_cons_zero, List.set_cons_succ]
                    refine wpAnyH_take (i := 2) (oi := ({ dst := some 100, op := Op.load 24 (Operand.tmp 99), type := 24, pos := "ref.go:173", after := #[{ on := 1, ground := Ground.data }], guard := none } : Oper)) (v := ?v14x2) rfl (by kernel_rfl) (by kernel_rfl) (by kernel_rfl) (fun _ _ _ h => h) (Or.inl ⟨by rfl, ?hy14x2⟩) hH ?_
                    case hy14x2 => ((intro w hSw); (try dsimp only at hSw); go_simp; try with_reducible rfl)
                    try simp only [Act.put, List.setIfInBounds_toArray, List.set_cons_zero, List.set_cons_succ]
                    refine wpAnyH_take (i := 3) (oi := ({ dst := some 101, op := Op.move (Operand.tmp 12), type := 3, pos := "ref.go:173", after := #[], guard := none } : Oper)) (v := ?v14x3) rfl (by kernel_rfl) (by kernel_rfl) (by kernel_rfl) (fun _ _ _ h => h) (Or.inl ⟨by rfl, ?hy14x3⟩) hH ?_
                    case hy14x3 => ((intro w hSw); (try dsimp only at hSw); go_simp; try with_reducible rfl)
                    try simp only [Act.put, List.setIfInBounds_toArray, List.set_cons_zero, List.set_cons_succ]
                    refine wpAnyH_take (i := 4) (oi := ({ dst := some 102, op := Op.indexAddr 24 (Operand.tmp 100) (Operand.tmp 101), type := 0, pos := "ref.go:173", after := #[{ on := 2, ground := Ground.data }, { on := 3, ground := Ground.data }], guard := none } : Oper)) (v := ?v14x4) rfl (by kernel_rfl) (by kernel_rfl) (by kernel_rfl) (fun _ _ _ h => h) (Or.inl ⟨by rfl, ?hy14x4⟩) hH ?_
                    case hy14x4 => ((intro w hSw); (try dsimp only at hSw); go_simp; try with_reducible rfl)
                    try simp only [Act.put, List.setIfInBounds_toArray, List.set_cons_zero, List.set_cons_succ]
                    refine wpAnyH_take (i := 5) (oi := ({ dst := some 103, op := Op.fieldAddr 38 (Operand.tmp 102) 1, type := 0, pos := "ref.go:173", after := #[{ on := 4, ground := Ground.data }], guard := none } : Oper)) (v := ?v14x5) rfl (by kernel_rfl) (by kernel_rfl) (by kernel_rfl) (fun _ _ _ h => h) (Or.inl ⟨by rfl, ?hy14x5⟩) hH ?_
                    case hy14x5 => ((intro w hSw); (try dsimp only at hSw); go_simp; try with_reducible rfl)
                    try simp only [Act.put, List.setIfInBounds_toArray, List.set_cons_zero, List.set_cons_succ]
                    refine wpAnyH_take (i := 6) (oi := ({ dst := some 104, op := Op.load 3 (Operand.tmp 103), type := 3, pos := "ref.go:173", after := #[{ on := 5, ground := Ground.data }], guard := none } : Oper)) (v := ?v14x6) rfl (by kernel_rfl) (by kernel_rfl) (by kernel_rfl) (fun _ _ _ h => h) (Or.inl ⟨by rfl, ?hy14x6⟩) hH ?_
                    case hy14x6 => ((intro w hSw); (try dsimp only at hSw); go_simp; try with_reducible rfl)
                    try simp only [Act.put, List.setIfInBounds_toArray, List.set_cons_zero, List.set_cons_succ]
                    refine wpAnyH_take (i := 8) (oi := ({ dst := some 106, op := Op.move (Operand.tmp 7), type := 9, pos := "ref.go:173", after := #[], guard := none } : Oper)) (v := ?v14x8) rfl (by kernel_rfl) (by kernel_rfl) (by kernel_rfl) (fun _ _ _ h => h) (Or.inl ⟨by rfl, ?hy14x8⟩) hH ?_
                    case hy14x8 => ((intro w hSw); (try dsimp only at hSw); go_simp; try with_reducible rfl)
                    try simp only [Act.put, List.setIfInBounds_toArray, List.set_cons_zero, List.set_cons_succ]
                    refine wpAnyH_ready (rs := [7]) (by kernel_rfl) (by simp) ?_
                    refine AllReadyH.cons (o := _) rfl (fun K hK => ?_) AllReadyH.nil
                    go_simp
                    go_at_call 32
                    refine (HX.out _ wr.drew hH.2.1 (by have := hH.2.2.2.2.2.2.2.2.2.2.2.1; omega) _ TD1.out).mono ?_
                    rintro e wz0 ⟨rfl, hb0⟩
                    try go_wp2_with fail
                    have hF := FBox.below hH.1 hb0 (FBox.lt hH.1)
                    have hFA := FileAt.below hH.2.1 hb0 (show B ≤ (wr.drew).heap.size by have := hH.2.2.2.2.2.2.2.2.2.2.2.1; omega)
                    have hy1 := keepc hb0 (B := w.heap.size) hpw hH.2.2.2.2.2.2.2.2.2.2.2.1 hH.2.2.2.2.2.2.2.2.2.1
                    have hy2 := keepc hb0 (B := w.heap.size) hpw hH.2.2.2.2.2.2.2.2.2.2.2.1 hH.2.2.2.2.2.2.2.2.2.2.1
                    have hss := Nat.le_trans hH.2.2.2.2.2.2.2.2.2.2.2.1 hb0.size
                    have hBE := Below.link hH.2.2.2.2.2.2.2.2.2.2.2.2 hb0
                    obtain ⟨c0', c1', c2', c3', c4', c5', c6'⟩ := hF.cells
                    refine hK.out _ _ ⟨hF, hFA, c0', c1', c2', c3', c4', c5', c6', hy1, hy2, hss, hBE⟩ (fun hH1 => ?_)
                    clear hK K hH hF hFA hy1 hy2 hss hBE c0' c1' c2' c3' c4' c5' c6' hb0
                    try simp only [Act.put, List.setIfInBounds_toArray, List.set_cons_zero, List.set_cons_succ]
                    refine wpAnyH_take (i := 9) (oi := ({ dst := some 107, op := Op.binOp BinOp.eql 9 (Operand.tmp 105) (Operand.tmp 106) 9, type := 4, pos := "ref.go:173", after := #[{ on := 7, ground := Ground.data }, { on := 8, ground := Ground.data }], guard := none } : Oper)) (v := ?v14x9) rfl (by kernel_rfl) (by kernel_rfl) (by kernel_rfl) (fun _ _ _ h => h) (Or.inl ⟨by rfl, ?hy14x9⟩) hH1 ?_
                    case hy14x9 => ((intro w hSw); (try dsimp only at hSw); go_simp; try with_reducible rfl)
                    try simp only [Act.put, List.setIfInBounds_toArray, List.set_cons_zero, List.set_cons_succ]
                    refine wpAnyH_take (i := 10) (oi := ({ dst := some 108, op := Op.move (Operand.tmp 107), type := 4, pos := "ref.go:173", after := #[{ on := 9, ground := Ground.data }, { on := 7, ground := Ground.chain }], guard := none } : Oper)) (v := ?v14x10) rfl (by kernel_rfl) (by kernel_rfl) (by kernel_rfl) (fun _ _ _ h => h) (Or.inl ⟨by rfl, ?hy14x10⟩) hH1 ?_
                    case hy14x10 => ((intro w hSw); (try dsimp only at hSw); go_simp; try with_reducible rfl)
                    try simp only [Act.put, List.setIfInBounds_toArray, List.set_cons_zero, List.set_cons_succ]
                    refine wpAnyH_take (i := 11) (oi := ({ dst := some 109, op := Op.load 26 (Operand.tmp 2), type := 26, pos := "ref.go:173", after := #[{ on := 10, ground := Ground.guard }], guard := some (10, true) } : Oper)) (v := ?v14x11) rfl (by kernel_rfl) (by kernel_rfl) (by kernel_rfl) (fun _ _ _ h => h) (Or.inl ⟨by rfl, ?hy14x11⟩) hH1 ?_
                    case hy14x11 => ((intro w hSw); (try dsimp only at hSw); go_simp; try with_reducible rfl)
                    try simp only [Act.put, List.setIfInBounds_toArray, List.set_cons_zero, List.set_cons_succ]
                    refine wpAnyH_take (i := 12) (oi := ({ dst := some 110, op := Op.fieldAddr 26 (Operand.tmp 2) 6, type := 0, pos := "ref.go:173", after := #[{ on := 10, ground := Ground.guard }], guard := some (10, true) } : Oper)) (v := ?v14x12) rfl (by kernel_rfl) (by kernel_rfl) (by kernel_rfl) (fun _ _ _ h => h) (Or.inl ⟨by rfl, ?hy14x12⟩) hH1 ?_
                    case hy14x12 => ((intro w hSw); (try dsimp only at hSw); go_simp; try with_reducible rfl)
                    try simp only [Act.put, List.setIfInBounds_toArray, List.set_cons_zero, List.set_cons_succ]
                    refine wpAnyH_take (i := 13) (oi := ({ dst := some 111, op := Op.load 24 (Operand.tmp 110), type := 24, pos := "ref.go:173", after := #[{ on := 12, ground := Ground.data }, { on := 10, ground := Ground.guard }], guard := some (10, true) } : Oper)) (v := ?v14x13) rfl (by kernel_rfl) (by kernel_rfl) (by kernel_rfl) (fun _ _ _ h => h) (Or.inl ⟨by rfl, ?hy14x13⟩) hH1 ?_
                    case hy14x13 => ((intro w hSw); (try dsimp only at hSw); go_simp; try with_reducible rfl)
                    try simp only [Act.put, List.setIfInBounds_toArray, List.set_cons_zero, List.set_cons_succ]
                    refine wpAnyH_take (i := 14) (oi := ({ dst := some 112, op := Op.move (Operand.tmp 12), type := 3, pos := "ref.go:173", after := #[{ on := 10, ground := Ground.guard }], guard := some (10, true) } : Oper)) (v := ?v14x14) rfl (by kernel_rfl) (by kernel_rfl) (by kernel_rfl) (fun _ _ _ h => h) (Or.inl ⟨by rfl, ?hy14x14⟩) hH1 ?_
                    case hy14x14 => ((intro w hSw); (try dsimp only at hSw); go_simp; try with_reducible rfl)
                    try simp only [Act.put, List.setIfInBounds_toArray, List.set_cons_zero, List.set_cons_succ]
                    refine wpAnyH_take (i := 15) (oi := ({ dst := some 113, op := Op.indexAddr 24 (Operand.tmp 111) (Operand.tmp 112), type := 0, pos := "ref.go:173", after := #[{ on := 13, ground := Ground.data }, { on := 14, ground := Ground.data }, { on := 10, ground := Ground.guard }], guard := some (10, true) } : Oper)) (v := ?v14x15) rfl (by kernel_rfl) (by kernel_rfl) (by kernel_rfl) (fun _ _ _ h => h) (Or.inl ⟨by rfl, ?hy14x15⟩) hH1 ?_
                    case hy14x15 => ((intro w hSw); (try dsimp only at hSw); go_simp; try with_reducible rfl)
                    try simp only [Act.put, List.setIfInBounds_toArray, List.set_cons_zero, List.set_cons_succ]
                    refine wpAnyH_take (i := 16) (oi := ({ dst := some 114, op := Op.fieldAddr 38 (Operand.tmp 113) 2, type := 0, pos := "ref.go:173", after := #[{ on := 15, ground := Ground.data }, { on := 10, ground := Ground.guard }], guard := some (10, true) } : Oper)) (v := ?v14x16) rfl (by kernel_rfl) (by kernel_rfl) (by kernel_rfl) (fun _ _ _ h => h) (Or.inl ⟨by rfl, ?hy14x16⟩) hH1 ?_
                    case hy14x16 => ((intro w hSw); (try dsimp only at hSw); go_simp; try with_reducible rfl)
                    try simp only [Act.put, List.setIfInBounds_toArray, List.set_cons_zero, List.set_cons_succ]
                    refine wpAnyH_take (i := 17) (oi := ({ dst := some 115, op := Op.load 3 (Operand.tmp 114), type := 3, pos := "ref.go:173", after := #[{ on := 16, ground := Ground.data }, { on := 10, ground := Ground.guard }], guard := some (10, true) } : Oper)) (v := ?v14x17) rfl (by kernel_rfl) (by kernel_rfl) (by kernel_rfl) (fun _ _ _ h => h) (Or.inl ⟨by rfl, ?hy14x17⟩) hH1 ?_
                    case hy14x17 => ((intro w hSw); (try dsimp only at hSw); go_simp; try with_reducible rfl)
                    try simp only [Act.put, List.setIfInBounds_toArray, List.set_cons_zero, List.set_cons_succ]
                    refine wpAnyH_take (i := 19) (oi := ({ dst := some 117, op := Op.move (Operand.tmp 8), type := 9, pos := "ref.go:173", after := #[{ on := 10, ground := Ground.guard }], guard := some (10, true) } : Oper)) (v := ?v14x19) rfl (by kernel_rfl) (by kernel_rfl) (by kernel_rfl) (fun _ _ _ h => h) (Or.inl ⟨by rfl, ?hy14x19⟩) hH1 ?_
                    case hy14x19 => ((intro w hSw); (try dsimp only at hSw); go_simp; try with_reducible rfl)
                    try simp only [Act.put, List.setIfInBounds_toArray, List.set_cons_zero, List.set_cons_succ]
                    refine wpAnyH_ready (rs := [18]) (by kernel_rfl) (by simp) ?_
                    refine AllReadyH.cons (o := _) rfl (fun K hK => ?_) AllReadyH.nil
                    go_simp
                    go_at_call 32
                    refine (HX.out _ wz0 hH1.2.1 (by have := hH1.2.2.2.2.2.2.2.2.2.2.2.1; omega) _ TD2.out).mono ?_
                    rintro e wz1 ⟨rfl, hb1⟩
                    try go_wp2_with fail
                    have hF := FBox.below hH1.1 hb1 (FBox.lt hH1.1)
                    have hFA := FileAt.below hH1.2.1 hb1 (show B ≤ (wz0).heap.size by have := hH1.2.2.2.2.2.2.2.2.2.2.2.1; omega)
                    have hy1 := keepc hb1 (B := w.heap.size) hpw hH1.2.2.2.2.2.2.2.2.2.2.2.1 hH1.2.2.2.2.2.2.2.2.2.1
                    have hy2 := keepc hb1 (B := w.heap.size) hpw hH1.2.2.2.2.2.2.2.2.2.2.2.1 hH1.2.2.2.2.2.2.2.2.2.2.1
                    have hss := Nat.le_trans hH1.2.2.2.2.2.2.2.2.2.2.2.1 hb1.size
                    have hBE := Below.link hH1.2.2.2.2.2.2.2.2.2.2.2.2 hb1
                    obtain ⟨c0', c1', c2', c3', c4', c5', c6'⟩ := hF.cells
                    refine hK.out _ _ ⟨hF, hFA, c0', c1', c2', c3', c4', c5', c6', hy1, hy2, hss, hBE⟩ (fun hH2 => ?_)
                    clear hK K hH1 hF hFA hy1 hy2 hss hBE c0' c1' c2' c3' c4' c5' c6' hb1
                    try simp only [Act.put, List.setIfInBounds_toArray, List.set_cons_zero, List.set_cons_succ]
                    refine wpAnyH_take (i := 20) (oi := ({ dst := some 118, op := Op.binOp BinOp.eql 9 (Operand.tmp 116) (Operand.tmp 117) 9, type := 4, pos := "ref.go:173", after := #[{ on := 18, ground := Ground.data }, { on := 19, ground := Ground.data }, { on := 10, ground := Ground.guard }], guard := some (10, true) } : Oper)) (v := ?v14x20) rfl (by kernel_rfl) (by kernel_rfl) (by kernel_rfl) (fun _ _ _ h => h) (Or.inl ⟨by rfl, ?hy14x20⟩) hH2 ?_
                    case hy14x20 => ((intro w hSw); (try dsimp only at hSw); go_simp; try with_reducible rfl)
                    try simp only [Act.put, List.setIfInBounds_toArray, List.set_cons_zero, List.set_cons_succ]
                    refine wpAnyH_take (i := 21) (oi := ({ dst := some 119, op := Op.pick (Operand.tmp 108) (Operand.tmp 118) (Operand.const (Value.bool false)), type := 4, pos := "ref.go:173", after := #[{ on := 10, ground := Ground.data }, { on := 20, ground := Ground.data }], guard := none } : Oper)) (v := ?v14x21) rfl (by kernel_rfl) (by kernel_rfl) (by kernel_rfl) (fun _ _ _ h => h) (Or.inl ⟨by rfl, ?hy14x21⟩) hH2 ?_
                    case hy14x21 => ((intro w hSw); (try dsimp only at hSw); go_simp; try with_reducible rfl)
                    try simp only [Act.put, List.setIfInBounds_toArray, List.set_cons_zero, List.set_cons_succ]
                    refine wpAnyH_done (by kernel_rfl) ?_ _
                    have FLI := Lib.hid hH2.2.1
                    have BFI := Lib.hid hH2.1
                    have BEI := Lib.hid hH2.2.2.2.2.2.2.2.2.2.2.2.2
                    clear hH2 c0 c1 c2 c3 c4 c5 c6 y1 y2
                    go_wp2
                    go_roundg (gk - 1)
                    case measure => exact hgg
                    case rel => exact ⟨k + 1, by go_num, by omega, HNX.out.trans HF.out, FLI.out, BFI.out, BEI.out⟩
                  | true =>
                    have hs1 : ((textP f.pool d.nm).toList == (textP f.pool m.nm).toList) = true := (str_beq _ _).trans hn
                    have hs2 : ((textP f.pool d.ds).toList == (textP f.pool m.ds).toList) = true := (str_beq _ _).trans hn2
                    have HF := Lib.hid (show sameM f.pool d m = true by unfold sameM sameN sameD; rw [hn, hn2]; rfl)
                    have HRR := Lib.hid (show R = 15 by rw [HRL.out, HAL.out HF.out]; rfl)
                    clear hn hn2
                    go_wp2
                    refine wp_region_held_drew (S := (fun w' => FBox w.heap.size Ap cp Ai ci Af cf (some ⟨p0, o0, none⟩) cm f w' ∧ FileAt B w' (.agg #[.slice Ap f.pool.length cp, .int .i64 f.fl, .int .i64 f.this, .int .i64 f.super, .slice Ai f.ifs.length ci, .slice Af f.fds.length cf, .slice (some ⟨p0, o0, none⟩) f.mts.length cm]) f ∧ w'.cell? ⟨w.heap.size, 0, none⟩ = some (.slice Ap f.pool.length cp) ∧ w'.cell? ⟨w.heap.size, 1, none⟩ = some (.int .i64 f.fl) ∧ w'.cell? ⟨w.heap.size, 2, none⟩ = some (.int .i64 f.this) ∧ w'.cell? ⟨w.heap.size, 3, none⟩ = some (.int .i64 f.super) ∧ w'.cell? ⟨w.heap.size, 4, none⟩ = some (.slice Ai f.ifs.length ci) ∧ w'.cell? ⟨w.heap.size, 5, none⟩ = some (.slice Af f.fds.length cf) ∧ w'.cell? ⟨w.heap.size, 6, none⟩ = some (.slice (some ⟨p0, o0, none⟩) f.mts.length cm) ∧ w'.cell? ⟨p0, o0 + k * 7 + 1, none⟩ = some (.int .i64 d.nm) ∧ w'.cell? ⟨p0, o0 + k * 7 + 2, none⟩ = some (.int .i64 d.ds) ∧ w.heap.size ≤ w'.heap.size ∧ Below w.heap.size w w')) (by kernel_rfl) (⟨BF9.out.drew, FL9.out.drew, c0, c1, c2, c3, c4, c5, c6, y1, y2, hsz9, BE9.out.drew⟩) (fun hH => ?_)
                    refine wpAnyH_take (i := 0) (oi := ({ dst := some 98, op := Op.load 26 (Operand.tmp 2), type := 26, pos := "ref.go:173", after := #[], guard := none } : Oper)) (v := ?v15x0) rfl (by kernel_rfl) (by kernel_rfl) (by kernel_rfl) (fun _ _ _ h => h) (Or.inl ⟨by rfl, ?hy15x0⟩) hH ?_
                    case hy15x0 => ((intro w hSw); (try dsimp only at hSw); go_simp; try with_reducible rfl)
                    try simp only [Act.put, List.setIfInBounds_toArray, List.set_cons_zero, List.set_cons_succ]
                    refine wpAnyH_take (i := 1) (oi := ({ dst := some 99, op := Op.fieldAddr 26 (Operand.tmp 2) 6, type := 0, pos := "ref.go:173", after := #[], guard := none } : Oper)) (v := ?v15x1) rfl (by kernel_rfl) (by kernel_rfl) (by kernel_rfl) (fun _ _ _ h => h) (Or.inl ⟨by rfl, ?hy15x1⟩) hH ?_
                    case hy15x1 => ((intro w hSw); (try dsimp only at hSw); go_simp; try with_reducible rfl)
                    try simp only [Act.put, List.setIfInBounds_toArray, List.set_cons_zero, List.set_cons_succ]
                    refine wpAnyH_take (i := 2) (oi := ({ dst := some 100, op := Op.load 24 (Operand.tmp 99), type := 24, pos := "ref.go:173", after := #[{ on := 1, ground := Ground.data }], guard := none } : Oper)) (v := ?v15x2) rfl (by kernel_rfl) (by kernel_rfl) (by kernel_rfl) (fun _ _ _ h => h) (Or.inl ⟨by rfl, ?hy15x2⟩) hH ?_
                    case hy15x2 => ((intro w hSw); (try dsimp only at hSw); go_simp; try with_reducible rfl)
                    try simp only [Act.put, List.setIfInBounds_toArray, List.set_cons_zero, List.set_cons_succ]
                    refine wpAnyH_take (i := 3) (oi := ({ dst := some 101, op := Op.move (Operand.tmp 12), type := 3, pos := "ref.go:173", after := #[], guard := none } : Oper)) (v := ?v15x3) rfl (by kernel_rfl) (by kernel_rfl) (by kernel_rfl) (fun _ _ _ h => h) (Or.inl ⟨by rfl, ?hy15x3⟩) hH ?_
                    case hy15x3 => ((intro w hSw); (try dsimp only at hSw); go_simp; try with_reducible rfl)
                    try simp only [Act.put, List.setIfInBounds_toArray, List.set_cons_zero, List.set_cons_succ]
                    refine wpAnyH_take (i := 4) (oi := ({ dst := some 102, op := Op.indexAddr 24 (Operand.tmp 100) (Operand.tmp 101), type := 0, pos := "ref.go:173", after := #[{ on := 2, ground := Ground.data }, { on := 3, ground := Ground.data }], guard := none } : Oper)) (v := ?v15x4) rfl (by kernel_rfl) (by kernel_rfl) (by kernel_rfl) (fun _ _ _ h => h) (Or.inl ⟨by rfl, ?hy15x4⟩) hH ?_
                    case hy15x4 => ((intro w hSw); (try dsimp only at hSw); go_simp; try with_reducible rfl)
                    try simp only [Act.put, List.setIfInBounds_toArray, List.set_cons_zero, List.set_cons_succ]
                    refine wpAnyH_take (i := 5) (oi := ({ dst := some 103, op := Op.fieldAddr 38 (Operand.tmp 102) 1, type := 0, pos := "ref.go:173", after := #[{ on := 4, ground := Ground.data }], guard := none } : Oper)) (v := ?v15x5) rfl (by kernel_rfl) (by kernel_rfl) (by kernel_rfl) (fun _ _ _ h => h) (Or.inl ⟨by rfl, ?hy15x5⟩) hH ?_
                    case hy15x5 => ((intro w hSw); (try dsimp only at hSw); go_simp; try with_reducible rfl)
                    try simp only [Act.put, List.setIfInBounds_toArray, List.set_cons_zero, List.set_cons_succ]
                    refine wpAnyH_take (i := 6) (oi := ({ dst := some 104, op := Op.load 3 (Operand.tmp 103), type := 3, pos := "ref.go:173", after := #[{ on := 5, ground := Ground.data }], guard := none } : Oper)) (v := ?v15x6) rfl (by kernel_rfl) (by kernel_rfl) (by kernel_rfl) (fun _ _ _ h => h) (Or.inl ⟨by rfl, ?hy15x6⟩) hH ?_
                    case hy15x6 => ((intro w hSw); (try dsimp only at hSw); go_simp; try with_reducible rfl)
                    try simp only [Act.put, List.setIfInBounds_toArray, List.set_cons_zero, List.set_cons_succ]
                    refine wpAnyH_take (i := 8) (oi := ({ dst := some 106, op := Op.move (Operand.tmp 7), type := 9, pos := "ref.go:173", after := #[], guard := none } : Oper)) (v := ?v15x8) rfl (by kernel_rfl) (by kernel_rfl) (by kernel_rfl) (fun _ _ _ h => h) (Or.inl ⟨by rfl, ?hy15x8⟩) hH ?_
                    case hy15x8 => ((intro w hSw); (try dsimp only at hSw); go_simp; try with_reducible rfl)
                    try simp only [Act.put, List.setIfInBounds_toArray, List.set_cons_zero, List.set_cons_succ]
                    refine wpAnyH_ready (rs := [7]) (by kernel_rfl) (by simp) ?_
                    refine AllReadyH.cons (o := _) rfl (fun K hK => ?_) AllReadyH.nil
                    go_simp
                    go_at_call 32
                    refine (HX.out _ wr.drew hH.2.1 (by have := hH.2.2.2.2.2.2.2.2.2.2.2.1; omega) _ TD1.out).mono ?_
                    rintro e wz0 ⟨rfl, hb0⟩
                    try go_wp2_with fail
                    have hF := FBox.below hH.1 hb0 (FBox.lt hH.1)
                    have hFA := FileAt.below hH.2.1 hb0 (show B ≤ (wr.drew).heap.size by have := hH.2.2.2.2.2.2.2.2.2.2.2.1; omega)
                    have hy1 := keepc hb0 (B := w.heap.size) hpw hH.2.2.2.2.2.2.2.2.2.2.2.1 hH.2.2.2.2.2.2.2.2.2.1
                    have hy2 := keepc hb0 (B := w.heap.size) hpw hH.2.2.2.2.2.2.2.2.2.2.2.1 hH.2.2.2.2.2.2.2.2.2.2.1
                    have hss := Nat.le_trans hH.2.2.2.2.2.2.2.2.2.2.2.1 hb0.size
                    have hBE := Below.link hH.2.2.2.2.2.2.2.2.2.2.2.2 hb0
                    obtain ⟨c0', c1', c2', c3', c4', c5', c6'⟩ := hF.cells
                    refine hK.out _ _ ⟨hF, hFA, c0', c1', c2', c3', c4', c5', c6', hy1, hy2, hss, hBE⟩ (fun hH1 => ?_)
                    clear hK K hH hF hFA hy1 hy2 hss hBE c0' c1' c2' c3' c4' c5' c6' hb0
                    try simp only [Act.put, List.setIfInBounds_toArray, List.set_cons_zero, List.set_cons_succ]
                    refine wpAnyH_take (i := 9) (oi := ({ dst := some 107, op := Op.binOp BinOp.eql 9 (Operand.tmp 105) (Operand.tmp 106) 9, type := 4, pos := "ref.go:173", after := #[{ on := 7, ground := Ground.data }, { on := 8, ground := Ground.data }], guard := none } : Oper)) (v := ?v15x9) rfl (by kernel_rfl) (by kernel_rfl) (by kernel_rfl) (fun _ _ _ h => h) (Or.inl ⟨by rfl, ?hy15x9⟩) hH1 ?_
                    case hy15x9 => ((intro w hSw); (try dsimp only at hSw); go_simp; try with_reducible rfl)
                    try simp only [Act.put, List.setIfInBounds_toArray, List.set_cons_zero, List.set_cons_succ]
                    refine wpAnyH_take (i := 10) (oi := ({ dst := some 108, op := Op.move (Operand.tmp 107), type := 4, pos := "ref.go:173", after := #[{ on := 9, ground := Ground.data }, { on := 7, ground := Ground.chain }], guard := none } : Oper)) (v := ?v15x10) rfl (by kernel_rfl) (by kernel_rfl) (by kernel_rfl) (fun _ _ _ h => h) (Or.inl ⟨by rfl, ?hy15x10⟩) hH1 ?_
                    case hy15x10 => ((intro w hSw); (try dsimp only at hSw); go_simp; try with_reducible rfl)
                    try simp only [Act.put, List.setIfInBounds_toArray, List.set_cons_zero, List.set_cons_succ]
                    refine wpAnyH_take (i := 11) (oi := ({ dst := some 109, op := Op.load 26 (Operand.tmp 2), type := 26, pos := "ref.go:173", after := #[{ on := 10, ground := Ground.guard }], guard := some (10, true) } : Oper)) (v := ?v15x11) rfl (by kernel_rfl) (by kernel_rfl) (by kernel_rfl) (fun _ _ _ h => h) (Or.inl ⟨by rfl, ?hy15x11⟩) hH1 ?_
                    case hy15x11 => ((intro w hSw); (try dsimp only at hSw); go_simp; try with_reducible rfl)
                    try simp only [Act.put, List.setIfInBounds_toArray, List.set_cons_zero, List.set_cons_succ]
                    refine wpAnyH_take (i := 12) (oi := ({ dst := some 110, op := Op.fieldAddr 26 (Operand.tmp 2) 6, type := 0, pos := "ref.go:173", after := #[{ on := 10, ground := Ground.guard }], guard := some (10, true) } : Oper)) (v := ?v15x12) rfl (by kernel_rfl) (by kernel_rfl) (by kernel_rfl) (fun _ _ _ h => h) (Or.inl ⟨by rfl, ?hy15x12⟩) hH1 ?_
                    case hy15x12 => ((intro w hSw); (try dsimp only at hSw); go_simp; try with_reducible rfl)
                    try simp only [Act.put, List.setIfInBounds_toArray, List.set_cons_zero, List.set_cons_succ]
                    refine wpAnyH_take (i := 13) (oi := ({ dst := some 111, op := Op.load 24 (Operand.tmp 110), type := 24, pos := "ref.go:173", after := #[{ on := 12, ground := Ground.data }, { on := 10, ground := Ground.guard }], guard := some (10, true) } : Oper)) (v := ?v15x13) rfl (by kernel_rfl) (by kernel_rfl) (by kernel_rfl) (fun _ _ _ h => h) (Or.inl ⟨by rfl, ?hy15x13⟩) hH1 ?_
                    case hy15x13 => ((intro w hSw); (try dsimp only at hSw); go_simp; try with_reducible rfl)
                    try simp only [Act.put, List.setIfInBounds_toArray, List.set_cons_zero, List.set_cons_succ]
                    refine wpAnyH_take (i := 14) (oi := ({ dst := some 112, op := Op.move (Operand.tmp 12), type := 3, pos := "ref.go:173", after := #[{ on := 10, ground := Ground.guard }], guard := some (10, true) } : Oper)) (v := ?v15x14) rfl (by kernel_rfl) (by kernel_rfl) (by kernel_rfl) (fun _ _ _ h => h) (Or.inl ⟨by rfl, ?hy15x14⟩) hH1 ?_
                    case hy15x14 => ((intro w hSw); (try dsimp only at hSw); go_simp; try with_reducible rfl)
                    try simp only [Act.put, List.setIfInBounds_toArray, List.set_cons_zero, List.set_cons_succ]
                    refine wpAnyH_take (i := 15) (oi := ({ dst := some 113, op := Op.indexAddr 24 (Operand.tmp 111) (Operand.tmp 112), type := 0, pos := "ref.go:173", after := #[{ on := 13, ground := Ground.data }, { on := 14, ground := Ground.data }, { on := 10, ground := Ground.guard }], guard := some (10, true) } : Oper)) (v := ?v15x15) rfl (by kernel_rfl) (by kernel_rfl) (by kernel_rfl) (fun _ _ _ h => h) (Or.inl ⟨by rfl, ?hy15x15⟩) hH1 ?_
                    case hy15x15 => ((intro w hSw); (try dsimp only at hSw); go_simp; try with_reducible rfl)
                    try simp only [Act.put, List.setIfInBounds_toArray, List.set_cons_zero, List.set_cons_succ]
                    refine wpAnyH_take (i := 16) (oi := ({ dst := some 114, op := Op.fieldAddr 38 (Operand.tmp 113) 2, type := 0, pos := "ref.go:173", after := #[{ on := 15, ground := Ground.data }, { on := 10, ground := Ground.guard }], guard := some (10, true) } : Oper)) (v := ?v15x16) rfl (by kernel_rfl) (by kernel_rfl) (by kernel_rfl) (fun _ _ _ h => h) (Or.inl ⟨by rfl, ?hy15x16⟩) hH1 ?_
                    case hy15x16 => ((intro w hSw); (try dsimp only at hSw); go_simp; try with_reducible rfl)
                    try simp only [Act.put, List.setIfInBounds_toArray, List.set_cons_zero, List.set_cons_succ]
                    refine wpAnyH_take (i := 17) (oi := ({ dst := some 115, op := Op.load 3 (Operand.tmp 114), type := 3, pos := "ref.go:173", after := #[{ on := 16, ground := Ground.data }, { on := 10, ground := Ground.guard }], guard := some (10, true) } : Oper)) (v := ?v15x17) rfl (by kernel_rfl) (by kernel_rfl) (by kernel_rfl) (fun _ _ _ h => h) (Or.inl ⟨by rfl, ?hy15x17⟩) hH1 ?_
                    case hy15x17 => ((intro w hSw); (try dsimp only at hSw); go_simp; try with_reducible rfl)
                    try simp only [Act.put, List.setIfInBounds_toArray, List.set_cons_zero, List.set_cons_succ]
                    refine wpAnyH_take (i := 19) (oi := ({ dst := some 117, op := Op.move (Operand.tmp 8), type := 9, pos := "ref.go:173", after := #[{ on := 10, ground := Ground.guard }], guard := some (10, true) } : Oper)) (v := ?v15x19) rfl (by kernel_rfl) (by kernel_rfl) (by kernel_rfl) (fun _ _ _ h => h) (Or.inl ⟨by rfl, ?hy15x19⟩) hH1 ?_
                    case hy15x19 => ((intro w hSw); (try dsimp only at hSw); go_simp; try with_reducible rfl)
                    try simp only [Act.put, List.setIfInBounds_toArray, List.set_cons_zero, List.set_cons_succ]
                    refine wpAnyH_ready (rs := [18]) (by kernel_rfl) (by simp) ?_
                    refine AllReadyH.cons (o := _) rfl (fun K hK => ?_) AllReadyH.nil
                    go_simp
                    go_at_call 32
                    refine (HX.out _ wz0 hH1.2.1 (by have := hH1.2.2.2.2.2.2.2.2.2.2.2.1; omega) _ TD2.out).mono ?_
                    rintro e wz1 ⟨rfl, hb1⟩
                    try go_wp2_with fail
                    have hF := FBox.below hH1.1 hb1 (FBox.lt hH1.1)
                    have hFA := FileAt.below hH1.2.1 hb1 (show B ≤ (wz0).heap.size by have := hH1.2.2.2.2.2.2.2.2.2.2.2.1; omega)
                    have hy1 := keepc hb1 (B := w.heap.size) hpw hH1.2.2.2.2.2.2.2.2.2.2.2.1 hH1.2.2.2.2.2.2.2.2.2.1
                    have hy2 := keepc hb1 (B := w.heap.size) hpw hH1.2.2.2.2.2.2.2.2.2.2.2.1 hH1.2.2.2.2.2.2.2.2.2.2.1
                    have hss := Nat.le_trans hH1.2.2.2.2.2.2.2.2.2.2.2.1 hb1.size
                    have hBE := Below.link hH1.2.2.2.2.2.2.2.2.2.2.2.2 hb1
                    obtain ⟨c0', c1', c2', c3', c4', c5', c6'⟩ := hF.cells
                    refine hK.out _ _ ⟨hF, hFA, c0', c1', c2', c3', c4', c5', c6', hy1, hy2, hss, hBE⟩ (fun hH2 => ?_)
                    clear hK K hH1 hF hFA hy1 hy2 hss hBE c0' c1' c2' c3' c4' c5' c6' hb1
                    try simp only [Act.put, List.setIfInBounds_toArray, List.set_cons_zero, List.set_cons_succ]
                    refine wpAnyH_take (i := 20) (oi := ({ dst := some 118, op := Op.binOp BinOp.eql 9 (Operand.tmp 116) (Operand.tmp 117) 9, type := 4, pos := "ref.go:173", after := #[{ on := 18, ground := Ground.data }, { on := 19, ground := Ground.data }, { on := 10, ground := Ground.guard }], guard := some (10, true) } : Oper)) (v := ?v15x20) rfl (by kernel_rfl) (by kernel_rfl) (by kernel_rfl) (fun _ _ _ h => h) (Or.inl ⟨by rfl, ?hy15x20⟩) hH2 ?_
                    case hy15x20 => ((intro w hSw); (try dsimp only at hSw); go_simp; try with_reducible rfl)
                    try simp only [Act.put, List.setIfInBounds_toArray, List.set_cons_zero, List.set_cons_succ]
                    refine wpAnyH_take (i := 21) (oi := ({ dst := some 119, op := Op.pick (Operand.tmp 108) (Operand.tmp 118) (Operand.const (Value.bool false)), type := 4, pos := "ref.go:173", after := #[{ on := 10, ground := Ground.data }, { on := 20, ground := Ground.data }], guard := none } : Oper)) (v := ?v15x21) rfl (by kernel_rfl) (by kernel_rfl) (by kernel_rfl) (fun _ _ _ h => h) (Or.inl ⟨by rfl, ?hy15x21⟩) hH2 ?_
                    case hy15x21 => ((intro w hSw); (try dsimp only at hSw); go_simp; try with_reducible rfl)
                    try simp only [Act.put, List.setIfInBounds_toArray, List.set_cons_zero, List.set_cons_succ]
                    refine wpAnyH_done (by kernel_rfl) ?_ _
                    have FLI := Lib.hid hH2.2.1
                    have BFI := Lib.hid hH2.1
                    have BEI := Lib.hid hH2.2.2.2.2.2.2.2.2.2.2.2.2
                    clear hH2 c0 c1 c2 c3 c4 c5 c6 y1 y2
                    go_wp2
                    go_ret
                    exact ⟨ret_i HRR.out.symm, BEI.out⟩
              · have hki : k = i := by omega
                have HRR := Lib.hid (show R = 0 by rw [HRL.out, ← hki, HANY.out]; rfl)
                clear hki
                go_wp2
                go_ret
                exact ⟨ret_i HRR.out.symm, BE9.out⟩
end Go.Proofs.Ytcgloepfnnfioaa
