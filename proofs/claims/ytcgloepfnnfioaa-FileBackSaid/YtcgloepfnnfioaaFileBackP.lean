/-
  PROVED: a file that may be is read as it was written, what is cut off it is too short, and what has a byte more has bytes behind the end (or is too long); a file that may not be is written as nothing, with the error that 'Right' tells; no answer of the document's own is asked. Any file, any cut (what the statement passes by aside). No condition.
-/
import Derived.Test.YtcgloepfnnfioaaRows
import Derived.Test.YtcgloepfnnfioaaP9
import Derived.Test.YtcgloepfnnfioaaSm
import Derived.Test.YtcgloepfnnfioaaM2
import Derived.Test.YtcgloepfnnfioaaOf
import Derived.WalkKit
import Derived.ProofKit
import Derived.OpenShut
import Derived.ShutString
import Derived.ChangeOld
import Derived.Below
set_option linter.unusedVariables false
set_option linter.unusedSimpArgs false
namespace Go.Proofs.Ytcgloepfnnfioaa
open Go.ChangeShapes Go.WideShapes Go.ChangeAt Go.RowKit

section
variable {H : Type} {enc : TypeId × Value → H} {w : World} {base : Nat} {spare : Nat → Bool} {held : Bool}
set_option maxRecDepth 100000 in
theorem trod_constR {fuel : Nat} {cs : List Value} {x : DataW H × List MemPlace} (h : DataW.trod enc Try.prog w base spare held fuel 47 cs = some x) (hz : Fits 47 x.1) : ∃ c : Cn, cs = ccells c ∧ c.text.size ≤ 1000000000000000 ∧ (-9223372036854775808 ≤ c.n ∧ c.n ≤ 9223372036854775807) := by
  obtain ⟨xs, m, _, rfl, hl, hlx, hf⟩ := DataW.trod_struct Try.underlying47 h
  have hC : Try.prog.cellsOf 47 = 6 := by kernel_rfl
  rw [hC] at hl
  obtain ⟨c0, c1, c2, c3, c4, c5, rfl⟩ : ∃ c0 c1 c2 c3 c4 c5, cs = [c0, c1, c2, c3, c4, c5] := by
    match cs, hl with
    | [c0, c1, c2, c3, c4, c5], _ => exact ⟨c0, c1, c2, c3, c4, c5, rfl⟩
  have hlx' : xs.length = 6 := hlx
  have h0 := hf 0 _ rfl
  have e0 : xs[0]? = some xs[0] := List.getElem?_eq_getElem (by omega)
  rw [e0] at h0
  obtain ⟨z0, hz0, _, _⟩ := DataW.trod_int Try.underlying3 h0
  obtain rfl : c0 = .int .i64 z0 := by simpa [k3] using hz0
  have h1 := hf 1 _ rfl
  have e1 : xs[1]? = some xs[1] := List.getElem?_eq_getElem (by omega)
  rw [e1] at h1
  obtain ⟨z1, hz1, hy1, _⟩ := DataW.trod_string Try.underlying9 h1
  obtain rfl : c1 = .string z1 := by simpa [k9] using hz1
  have hs1 : z1.size ≤ 1000000000000000 := by
    have := hz.part Try.underlying47 (j := 1) rfl (d := xs[1].1) (by rw [List.getElem?_map, e1]; rfl)
    rw [hy1] at this
    exact this.str
  have h2 := hf 2 _ rfl
  have e2 : xs[2]? = some xs[2] := List.getElem?_eq_getElem (by omega)
  rw [e2] at h2
  obtain ⟨z2, hz2, _, hw2⟩ := DataW.trod_int Try.underlying3 h2
  obtain rfl : c2 = .int .i64 z2 := by simpa [k3] using hz2
  have h3 := hf 3 _ rfl
  have e3 : xs[3]? = some xs[3] := List.getElem?_eq_getElem (by omega)
  rw [e3] at h3
  obtain ⟨z3, hz3, _, _⟩ := DataW.trod_int Try.underlying3 h3
  obtain rfl : c3 = .int .i64 z3 := by simpa [k3] using hz3
  have h4 := hf 4 _ rfl
  have e4 : xs[4]? = some xs[4] := List.getElem?_eq_getElem (by omega)
  rw [e4] at h4
  obtain ⟨z4, hz4, _, _⟩ := DataW.trod_int Try.underlying3 h4
  obtain rfl : c4 = .int .i64 z4 := by simpa [k3] using hz4
  have h5 := hf 5 _ rfl
  have e5 : xs[5]? = some xs[5] := List.getElem?_eq_getElem (by omega)
  rw [e5] at h5
  obtain ⟨z5, hz5, _, _⟩ := DataW.trod_int Try.underlying3 h5
  obtain rfl : c5 = .int .i64 z5 := by simpa [k3] using hz5
  simp only [Lit.wf, Bool.and_eq_true, decide_eq_true_eq] at hw2
  exact ⟨⟨z0, z1, z2, z3, z4, z5⟩, rfl, hs1, hw2⟩
theorem open_crowR {fuel : Nat} {v : Value} {x : DataW H × List MemPlace} (h : DataW.trod enc Try.prog w base spare held fuel 22 [v] = some x) (hz : Fits 22 x.1) : ∃ cs, CRow w.heap.size w v cs ∧ ∀ c ∈ cs, c.text.size ≤ 1000000000000000 ∧ (-9223372036854775808 ≤ c.n ∧ c.n ≤ 9223372036854775807) := by
  obtain ⟨A, cap, ps, rfl, hl, hm, hfit, hq, hr⟩ := open_rows (fun (c : Cn) cs => cs = ccells c ∧ c.text.size ≤ 1000000000000000 ∧ (-9223372036854775808 ≤ c.n ∧ c.n ≤ 9223372036854775807)) Try.underlying22 (size := 6) (by kernel_rfl) (by omega) (of_decide_eq_true (by kernel_rfl)) (fun n cs y h hz => trod_constR h hz) h hz
  have e : ps.flatMap (·.2) = (ps.map (·.1)).flatMap ccells := by
    rw [List.flatMap_map]
    exact flatMap_same fun p hp => (hq p hp).1
  refine ⟨ps.map (·.1), ⟨A, cap, by rw [List.length_map], by rw [List.length_map]; exact hl, by rw [List.length_map]; exact hm, ?_⟩, fun c hc => ?_⟩
  · rw [List.length_map, ← e]
    exact hr
  · obtain ⟨p, hp, rfl⟩ := List.mem_map.1 hc
    exact (hq p hp).2
set_option maxRecDepth 100000 in
theorem open_fileR {r : Reach} {b0 : Nat} {v : Value} {d : DataW H} {p : List MemPlace} (hv : Value.okWide Try.prog w r b0 26 v) (h : DataW.Trod enc Try.prog w base spare held 26 v d p) (hz : Fits 26 d) :
    ∃ f : Fl, FileAt w.heap.size w v f ∧ (∀ c ∈ f.pool, c.text.size ≤ 1000000000000000 ∧ (-9223372036854775808 ≤ c.n ∧ c.n ≤ 9223372036854775807)) ∧ (∀ m ∈ f.fds, m.code.size ≤ 1000000000000000 ∧ m.hs.length ≤ 1000000000000000) ∧ ∀ m ∈ f.mts, m.code.size ≤ 1000000000000000 ∧ m.hs.length ≤ 1000000000000000 := by
  obtain ⟨cs, rfl, hsz⟩ := okWide_struct Try.underlying26 hv
  have hC : Try.prog.cellsOf 26 = 7 := by kernel_rfl
  rw [hC] at hsz
  obtain ⟨l⟩ := cs
  obtain ⟨c0, c1, c2, c3, c4, c5, c6, rfl⟩ : ∃ c0 c1 c2 c3 c4 c5 c6, l = [c0, c1, c2, c3, c4, c5, c6] := by
    match l, hsz with
    | [c0, c1, c2, c3, c4, c5, c6], _ => exact ⟨c0, c1, c2, c3, c4, c5, c6, rfl⟩
  obtain ⟨fuel, hf⟩ := h
  obtain ⟨xs, m, _, hx, hl, hlx, hff⟩ := DataW.trod_struct Try.underlying26 hf
  simp only [Prod.mk.injEq] at hx
  obtain ⟨rfl, _⟩ := hx
  have hlx' : xs.length = 7 := hlx
  have h0 : DataW.trod enc Try.prog w base spare held m 22 (([c0, c1, c2, c3, c4, c5, c6].drop 0).take (Try.prog.cellsOf 22)) = xs[0]? := hff 0 _ rfl
  have e0 : xs[0]? = some xs[0] := List.getElem?_eq_getElem (by omega)
  rw [e0] at h0
  have g0 : DataW.trod enc Try.prog w base spare held m 22 [c0] = some xs[0] := by simpa [k22] using h0
  have s0 : Fits 22 xs[0].1 := hz.part Try.underlying26 (j := 0) rfl (d := xs[0].1) (by rw [List.getElem?_map, e0]; rfl)
  have h1 : DataW.trod enc Try.prog w base spare held m 3 (([c0, c1, c2, c3, c4, c5, c6].drop 1).take (Try.prog.cellsOf 3)) = xs[1]? := hff 1 _ rfl
  have e1 : xs[1]? = some xs[1] := List.getElem?_eq_getElem (by omega)
  rw [e1] at h1
  have g1 : DataW.trod enc Try.prog w base spare held m 3 [c1] = some xs[1] := by simpa [k3] using h1
  have s1 : Fits 3 xs[1].1 := hz.part Try.underlying26 (j := 1) rfl (d := xs[1].1) (by rw [List.getElem?_map, e1]; rfl)
  have h2 : DataW.trod enc Try.prog w base spare held m 3 (([c0, c1, c2, c3, c4, c5, c6].drop 2).take (Try.prog.cellsOf 3)) = xs[2]? := hff 2 _ rfl
  have e2 : xs[2]? = some xs[2] := List.getElem?_eq_getElem (by omega)
  rw [e2] at h2
  have g2 : DataW.trod enc Try.prog w base spare held m 3 [c2] = some xs[2] := by simpa [k3] using h2
  have s2 : Fits 3 xs[2].1 := hz.part Try.underlying26 (j := 2) rfl (d := xs[2].1) (by rw [List.getElem?_map, e2]; rfl)
  have h3 : DataW.trod enc Try.prog w base spare held m 3 (([c0, c1, c2, c3, c4, c5, c6].drop 3).take (Try.prog.cellsOf 3)) = xs[3]? := hff 3 _ rfl
  have e3 : xs[3]? = some xs[3] := List.getElem?_eq_getElem (by omega)
  rw [e3] at h3
  have g3 : DataW.trod enc Try.prog w base spare held m 3 [c3] = some xs[3] := by simpa [k3] using h3
  have s3 : Fits 3 xs[3].1 := hz.part Try.underlying26 (j := 3) rfl (d := xs[3].1) (by rw [List.getElem?_map, e3]; rfl)
  have h4 : DataW.trod enc Try.prog w base spare held m 23 (([c0, c1, c2, c3, c4, c5, c6].drop 4).take (Try.prog.cellsOf 23)) = xs[4]? := hff 4 _ rfl
  have e4 : xs[4]? = some xs[4] := List.getElem?_eq_getElem (by omega)
  rw [e4] at h4
  have g4 : DataW.trod enc Try.prog w base spare held m 23 [c4] = some xs[4] := by simpa [k23] using h4
  have s4 : Fits 23 xs[4].1 := hz.part Try.underlying26 (j := 4) rfl (d := xs[4].1) (by rw [List.getElem?_map, e4]; rfl)
  have h5 : DataW.trod enc Try.prog w base spare held m 24 (([c0, c1, c2, c3, c4, c5, c6].drop 5).take (Try.prog.cellsOf 24)) = xs[5]? := hff 5 _ rfl
  have e5 : xs[5]? = some xs[5] := List.getElem?_eq_getElem (by omega)
  rw [e5] at h5
  have g5 : DataW.trod enc Try.prog w base spare held m 24 [c5] = some xs[5] := by simpa [k24] using h5
  have s5 : Fits 24 xs[5].1 := hz.part Try.underlying26 (j := 5) rfl (d := xs[5].1) (by rw [List.getElem?_map, e5]; rfl)
  have h6 : DataW.trod enc Try.prog w base spare held m 24 (([c0, c1, c2, c3, c4, c5, c6].drop 6).take (Try.prog.cellsOf 24)) = xs[6]? := hff 6 _ rfl
  have e6 : xs[6]? = some xs[6] := List.getElem?_eq_getElem (by omega)
  rw [e6] at h6
  have g6 : DataW.trod enc Try.prog w base spare held m 24 [c6] = some xs[6] := by simpa [k24] using h6
  have s6 : Fits 24 xs[6].1 := hz.part Try.underlying26 (j := 6) rfl (d := xs[6].1) (by rw [List.getElem?_map, e6]; rfl)
  obtain ⟨pool, hp, hpt⟩ := open_crowR g0 s0
  obtain ⟨z1, hz1, _, _⟩ := DataW.trod_int Try.underlying3 g1
  obtain ⟨z2, hz2, _, _⟩ := DataW.trod_int Try.underlying3 g2
  obtain ⟨z3, hz3, _, _⟩ := DataW.trod_int Try.underlying3 g3
  obtain ⟨is, hi⟩ := open_irow g4 s4
  obtain ⟨fds, hfd, hfc⟩ := open_mrow g5 s5
  obtain ⟨mts, hmt, hmc⟩ := open_mrow g6 s6
  obtain rfl : c1 = .int .i64 z1 := by simpa using hz1
  obtain rfl : c2 = .int .i64 z2 := by simpa using hz2
  obtain rfl : c3 = .int .i64 z3 := by simpa using hz3
  obtain ⟨Ap, cp, rfl, _⟩ := id hp
  obtain ⟨Ai, ci, rfl, _⟩ := id hi
  obtain ⟨_, _, _, Af, cf, rfl, _⟩ := id hfd
  obtain ⟨_, _, _, Am, cm, rfl, _⟩ := id hmt
  exact ⟨⟨pool, z1, z2, z3, is, fds, mts⟩, ⟨Ap, cp, Ai, ci, Af, cf, Am, cm, rfl, hp, hi, hfd, hmt⟩, hpt, hfc, hmc⟩
end
theorem encF_part {f : Fl} (h : encF f = 0) : FineF f ∧ (fileN f).length ≤ 65536 ∧ encT f = mkB (fileN f) := by
  unfold encF at h
  split at h
  · rename_i h1
    split at h
    · rename_i h2
      exact ⟨partsE_fine h1, h2, by unfold encT; rw [if_pos ⟨h1, h2⟩]⟩
    · simp at h
  · rename_i h1
    exact absurd h h1
theorem encT_bad {f : Fl} (h : encF f ≠ 0) : encT f = ⟨#[]⟩ := by
  unfold encT
  rw [if_neg]
  intro hh
  apply h
  unfold encF
  rw [if_pos hh.1, if_pos hh.2]
/-- What is read of a file's bytes; of a beginning; of a byte more. -/
theorem prs_file {f : Fl} (h : encF f = 0) (hr : ∀ c ∈ f.pool, -9223372036854775808 ≤ c.n ∧ c.n ≤ 9223372036854775807) : prsE (fileN f) = 0 ∧ prsF (fileN f) = f := by
  obtain ⟨h1, h2, _⟩ := encF_part h
  obtain ⟨h3, h4⟩ := fl_in h1 hr
  have h5 := rdF_fileN f [] h3
  rw [List.append_nil, h4] at h5
  have h6 : prsE (fileN f) = 0 := by
    unfold prsE leftE
    rw [if_neg (by omega), h5]
    simp [h]
  refine ⟨h6, ?_⟩
  unfold prsF
  rw [if_pos h6, h5]
theorem prs_cut {f : Fl} (h : encF f = 0) (hr : ∀ c ∈ f.pool, -9223372036854775808 ≤ c.n ∧ c.n ≤ 9223372036854775807) (k : Nat) (hk : k < (fileN f).length) : prsE ((fileN f).take k) = 5 ∧ prsF ((fileN f).take k) = zeroF := by
  obtain ⟨h1, h2, _⟩ := encF_part h
  obtain ⟨h3, h4⟩ := fl_in h1 hr
  have h5 := rdF_cut f h3 ((fileN f).take k) ((fileN f).drop k) (List.take_append_drop k _) (fun e => by have := congrArg List.length e; rw [List.length_drop] at this; simp at this; omega)
  have h6 : prsE ((fileN f).take k) = 5 := by
    unfold prsE
    rw [if_neg (by rw [List.length_take]; omega)]
    have h7 : leftE (rdF ((fileN f).take k) 0) = 5 := by
      unfold leftE
      rw [h5]
      split <;> rfl
    rw [h7]
    rfl
  refine ⟨h6, ?_⟩
  unfold prsF
  rw [if_neg (by rw [h6]; decide)]
theorem prs_more {f : Fl} (h : encF f = 0) (hr : ∀ c ∈ f.pool, -9223372036854775808 ≤ c.n ∧ c.n ≤ 9223372036854775807) (x : UInt8) : prsE (fileN f ++ [x]) = (if (fileN f).length = 65536 then 2 else 6) ∧ prsF (fileN f ++ [x]) = zeroF := by
  obtain ⟨h1, h2, _⟩ := encF_part h
  obtain ⟨h3, h4⟩ := fl_in h1 hr
  have h5 := rdF_fileN f [x] h3
  have h6 : prsE (fileN f ++ [x]) = (if (fileN f).length = 65536 then 2 else 6) := by
    unfold prsE leftE
    rw [List.length_append, h5]
    by_cases hl : (fileN f).length = 65536
    · rw [if_pos (by simp; omega), if_pos hl]
    · rw [if_neg (by simp; omega), if_neg hl]
      simp [failE]
  refine ⟨h6, ?_⟩
  unfold prsF
  rw [if_neg (by rw [h6]; split <;> decide)]
theorem encT_pos {f : Fl} (h : encF f = 0) : 0 < (encT f).size := by
  obtain ⟨_, _, h3⟩ := encF_part h
  rw [h3]
  show 0 < (fileN f).length
  unfold fileN
  simp
set_option maxRecDepth 1000000 in
set_option maxHeartbeats 1600000 in
theorem pick_any (c n : Int) (hc1 : -9223372036854775808 ≤ c) (hc2 : c ≤ 9223372036854775807) (hn : 0 < n) (hn2 : n ≤ 1000000) (w : World) :
    Calls Try.prog 24 #[.int .i64 c, .int .i64 n] w fun e w' => ∃ r : Int, e = .returned (.int .i64 r) ∧ 0 ≤ r ∧ r < n ∧ Below w.heap.size w w' := by
  have HBE := Lib.hid (Below.refl w.heap.size w)
  have hne : n ≠ 0 := by omega
  by_cases h : c < 0
  · have hw1 : IntKind.i64.wrap (c + 1) = c + 1 := IntWalk.i64_in _ (by omega)
    have hw2 : IntKind.i64.wrap (-(c + 1)) = -(c + 1) := IntWalk.i64_in _ (by omega)
    go_enter Try.func24, Try.ntmps24
    go_wp2
    go_ret
    have e1 : -(c + 1).tmod n = (-(c + 1)).tmod n := (Int.neg_tmod _ _).symm
    exact ⟨_, rfl, by rw [e1]; exact Int.tmod_nonneg _ (by omega), by rw [e1]; exact Int.tmod_lt_of_pos _ hn, HBE.out⟩
  · go_enter Try.func24, Try.ntmps24
    go_wp2
    go_ret
    exact ⟨_, rfl, Int.emod_nonneg _ hne, Int.emod_lt_of_pos _ hn, HBE.out⟩
set_option maxRecDepth 1000000 in
set_option maxHeartbeats 6400000 in
theorem back_walk {B : Nat} (f : Fl) (v : Value) (w : World) (hf : FileAt B w v f) (hB : B ≤ w.heap.size) (hs : FitsF f) (hrg : ∀ c ∈ f.pool, -9223372036854775808 ≤ c.n ∧ c.n ≤ 9223372036854775807) (ai : Int) (hai : -9223372036854775808 ≤ ai ∧ ai ≤ 9223372036854775807) :
    Calls Try.prog 5 #[v, .int .i64 ai] w fun e w' => e = .returned (.bool true) ∧ Below w.heap.size w w' := by
  have HS := Lib.hid (fun V W hW hWB => Small_any (B := B) f V W hW hWB hs)
  have HEN := Lib.hid (fun V W hW hWB => Encode_file (B := B) f V W hW hWB hs.pool)
  have HRI := Lib.hid (fun V W hW hWB => Right_file (B := B) f V W hW hWB hs.pool)
  have HPOS := Lib.hid (fun h => encT_pos (f := f) h)
  have HBAD := Lib.hid (fun h => encT_bad (f := f) h)
  have HGOOD := Lib.hid (fun h => encF_part (f := f) h)
  have H1 := Lib.hid (fun h => prs_file (f := f) h hrg)
  have H2 := Lib.hid (fun h => prs_cut (f := f) h hrg)
  have H3 := Lib.hid (fun h => prs_more (f := f) h hrg)
  obtain ⟨Ap, cp, Ai, ci, Af, cf, Am, cm, rfl, hi⟩ := id hf
  have BE0 := Lib.hid ((Below.refl w.heap.size w).alloc (Nat.le_refl _) (.cells #[.slice Ap f.pool.length cp, .int .i64 f.fl, .int .i64 f.this, .int .i64 f.super, .slice Ai f.ifs.length ci, .slice Af f.fds.length cf, .slice Am f.mts.length cm] 26))
  have BF0 := Lib.hid (heap_new w (.cells #[.slice Ap f.pool.length cp, .int .i64 f.fl, .int .i64 f.this, .int .i64 f.super, .slice Ai f.ifs.length ci, .slice Af f.fds.length cf, .slice Am f.mts.length cm] 26))
  have FL0 := Lib.hid (hf.alloc hB (.cells #[.slice Ap f.pool.length cp, .int .i64 f.fl, .int .i64 f.this, .int .i64 f.super, .slice Ai f.ifs.length ci, .slice Af f.fds.length cf, .slice Am f.mts.length cm] 26))
  clear hi hf hs hrg
  generalize encT f = T at *
  generalize encF f = E at *
  generalize smallB f = S at *
  go_enter Try.func5, Try.ntmps5
  go_wp2_with fail
  refine (shown_any _).mono ?_
  rintro e w1 ⟨rfl, hb⟩
  have BE1 := Lib.hid (BE0.out.trans (hb.mono BE0.out.size))
  have BF1 := Lib.hid (Below.keep hb (lt_of_block BF0.out) BF0.out)
  have FL1 := Lib.hid (FL0.out.below hb (Nat.le_trans hB BE0.out.size))
  clear hb
  have f0 : w1.cell? ⟨w.heap.size, 0, none⟩ = some (.slice Ap f.pool.length cp) := cells_of BF1.out 0
  have f1 : w1.cell? ⟨w.heap.size, 1, none⟩ = some (.int .i64 f.fl) := cells_of BF1.out 1
  have f2 : w1.cell? ⟨w.heap.size, 2, none⟩ = some (.int .i64 f.this) := cells_of BF1.out 2
  have f3 : w1.cell? ⟨w.heap.size, 3, none⟩ = some (.int .i64 f.super) := cells_of BF1.out 3
  have f4 : w1.cell? ⟨w.heap.size, 4, none⟩ = some (.slice Ai f.ifs.length ci) := cells_of BF1.out 4
  have f5 : w1.cell? ⟨w.heap.size, 5, none⟩ = some (.slice Af f.fds.length cf) := cells_of BF1.out 5
  have f6 : w1.cell? ⟨w.heap.size, 6, none⟩ = some (.slice Am f.mts.length cm) := cells_of BF1.out 6
  have ltf := lt_of_block BF1.out
  go_wp2_with fail
  refine (HS.out _ _ FL1.out (Nat.le_trans hB BE1.out.size)).mono ?_
  rintro e w2 ⟨rfl, hb⟩
  have BE2 := Lib.hid (BE1.out.trans (hb.mono BE1.out.size))
  have BF2 := Lib.hid (Below.keep hb (lt_of_block BF1.out) BF1.out)
  have FL2 := Lib.hid (FL1.out.below hb (Nat.le_trans hB BE1.out.size))
  clear hb
  clear f0 f1 f2 f3 f4 f5 f6 ltf
  cases S
  · go_wp2
    go_ret
    exact ⟨rfl, BE2.out⟩
  have f0 : w2.cell? ⟨w.heap.size, 0, none⟩ = some (.slice Ap f.pool.length cp) := cells_of BF2.out 0
  have f1 : w2.cell? ⟨w.heap.size, 1, none⟩ = some (.int .i64 f.fl) := cells_of BF2.out 1
  have f2 : w2.cell? ⟨w.heap.size, 2, none⟩ = some (.int .i64 f.this) := cells_of BF2.out 2
  have f3 : w2.cell? ⟨w.heap.size, 3, none⟩ = some (.int .i64 f.super) := cells_of BF2.out 3
  have f4 : w2.cell? ⟨w.heap.size, 4, none⟩ = some (.slice Ai f.ifs.length ci) := cells_of BF2.out 4
  have f5 : w2.cell? ⟨w.heap.size, 5, none⟩ = some (.slice Af f.fds.length cf) := cells_of BF2.out 5
  have f6 : w2.cell? ⟨w.heap.size, 6, none⟩ = some (.slice Am f.mts.length cm) := cells_of BF2.out 6
  have ltf := lt_of_block BF2.out
  go_wp2_with fail
  refine (HEN.out _ _ FL2.out (Nat.le_trans hB BE2.out.size)).mono ?_
  rintro e w3 ⟨rfl, hb⟩
  have BE3 := Lib.hid (BE2.out.trans (hb.mono BE2.out.size))
  have BF3 := Lib.hid (Below.keep hb (lt_of_block BF2.out) BF2.out)
  have FL3 := Lib.hid (FL2.out.below hb (Nat.le_trans hB BE2.out.size))
  clear hb
  clear f0 f1 f2 f3 f4 f5 f6 ltf
  rcases Classical.em (E = 0) with hE | hE
  rotate_left
  · have z1 : (E == 0) = false := by simpa using hE
    have z2 : (E != 0) = true := by simpa using hE
    have hT := HBAD.out hE
    subst hT
    clear hE
    have f0 : w3.cell? ⟨w.heap.size, 0, none⟩ = some (.slice Ap f.pool.length cp) := cells_of BF3.out 0
    have f1 : w3.cell? ⟨w.heap.size, 1, none⟩ = some (.int .i64 f.fl) := cells_of BF3.out 1
    have f2 : w3.cell? ⟨w.heap.size, 2, none⟩ = some (.int .i64 f.this) := cells_of BF3.out 2
    have f3 : w3.cell? ⟨w.heap.size, 3, none⟩ = some (.int .i64 f.super) := cells_of BF3.out 3
    have f4 : w3.cell? ⟨w.heap.size, 4, none⟩ = some (.slice Ai f.ifs.length ci) := cells_of BF3.out 4
    have f5 : w3.cell? ⟨w.heap.size, 5, none⟩ = some (.slice Af f.fds.length cf) := cells_of BF3.out 5
    have f6 : w3.cell? ⟨w.heap.size, 6, none⟩ = some (.slice Am f.mts.length cm) := cells_of BF3.out 6
    have ltf := lt_of_block BF3.out
    go_wp2_with fail
    refine (HRI.out _ _ FL3.out (Nat.le_trans hB BE3.out.size)).mono ?_
    rintro e w4 ⟨rfl, hb⟩
    have BE4 := Lib.hid (BE3.out.trans (hb.mono BE3.out.size))
    clear hb f0 f1 f2 f3 f4 f5 f6 ltf
    go_wp2
    go_ret
    exact ⟨rfl, BE4.out⟩
  subst hE
  have hpos := HPOS.out rfl
  obtain ⟨_, hle, hTN⟩ := HGOOD.out rfl
  have hLN : L T = fileN f := by rw [hTN]; rfl
  have hTs : T.size = (fileN f).length := by rw [size_L, hLN]
  rw [← hTs] at hle
  obtain ⟨p1, p2⟩ := H1.out rfl
  have HP1 := Lib.hid (fun W => Parse_any T (by omega) W)
  rw [hLN, p1, p2] at HP1
  unfold flV at HP1
  have H2' := Lib.hid (fun k hk => H2.out rfl k hk)
  have HLN := Lib.hid hLN
  have H3' := Lib.hid (H3.out rfl 120)
  have HTS := Lib.hid hTs
  clear hTN hLN p1 p2 H1 H2 H3 HPOS HBAD HGOOD HS hTs
  go_wp2_with fail
  refine (HP1.out _).mono ?_
  rintro e w4 ⟨a0, c0, a4, c4, a5, c5, a6, c6, rfl, hown, hb⟩
  have BE4 := Lib.hid (BE3.out.trans (hb.mono BE3.out.size))
  have BF4 := Lib.hid (Below.keep hb (lt_of_block BF3.out) BF3.out)
  have FL4 := Lib.hid (FL3.out.below hb (Nat.le_trans hB BE3.out.size))
  have OW := Lib.hid (hown.alloc (.cells #[.slice a0 f.pool.length c0, .int .i64 f.fl, .int .i64 f.this, .int .i64 f.super, .slice a4 f.ifs.length c4, .slice a5 f.fds.length c5, .slice a6 f.mts.length c6] 26))
  have FG := Lib.hid (OW.out.fileAt)
  have BG := Lib.hid (heap_new w4 (.cells #[.slice a0 f.pool.length c0, .int .i64 f.fl, .int .i64 f.this, .int .i64 f.super, .slice a4 f.ifs.length c4, .slice a5 f.fds.length c5, .slice a6 f.mts.length c6] 26))
  have BE5 := Lib.hid (BE4.out.alloc BE4.out.size (.cells #[.slice a0 f.pool.length c0, .int .i64 f.fl, .int .i64 f.this, .int .i64 f.super, .slice a4 f.ifs.length c4, .slice a5 f.fds.length c5, .slice a6 f.mts.length c6] 26))
  have BF5 := Lib.hid (heap_alloc_lt (o := (.cells #[.slice a0 f.pool.length c0, .int .i64 f.fl, .int .i64 f.this, .int .i64 f.super, .slice a4 f.ifs.length c4, .slice a5 f.fds.length c5, .slice a6 f.mts.length c6] 26)) BF4.out)
  have FL5 := Lib.hid (show FileAt w4.heap.size (w4.alloc (.cells #[.slice a0 f.pool.length c0, .int .i64 f.fl, .int .i64 f.this, .int .i64 f.super, .slice a4 f.ifs.length c4, .slice a5 f.fds.length c5, .slice a6 f.mts.length c6] 26)) _ f from (FL4.out.more (Nat.le_trans hB BE4.out.size)).alloc (Nat.le_refl _) (.cells #[.slice a0 f.pool.length c0, .int .i64 f.fl, .int .i64 f.this, .int .i64 f.super, .slice a4 f.ifs.length c4, .slice a5 f.fds.length c5, .slice a6 f.mts.length c6] 26))
  clear hown hb
  have HSF := Lib.hid (SameFile_any (B := w4.heap.size + 1) f f _ _ _ (FL5.out.more (by omega)) (by have := FG.out; unfold flV at this; rwa [show (w4.alloc (.cells #[.slice a0 f.pool.length c0, .int .i64 f.fl, .int .i64 f.this, .int .i64 f.super, .slice a4 f.ifs.length c4, .slice a5 f.fds.length c5, .slice a6 f.mts.length c6] 26)).heap.size = w4.heap.size + 1 by simp] at this) (by simp))
  have f0 : (w4.alloc (.cells #[.slice a0 f.pool.length c0, .int .i64 f.fl, .int .i64 f.this, .int .i64 f.super, .slice a4 f.ifs.length c4, .slice a5 f.fds.length c5, .slice a6 f.mts.length c6] 26)).cell? ⟨w.heap.size, 0, none⟩ = some (.slice Ap f.pool.length cp) := cells_of BF5.out 0
  have f1 : (w4.alloc (.cells #[.slice a0 f.pool.length c0, .int .i64 f.fl, .int .i64 f.this, .int .i64 f.super, .slice a4 f.ifs.length c4, .slice a5 f.fds.length c5, .slice a6 f.mts.length c6] 26)).cell? ⟨w.heap.size, 1, none⟩ = some (.int .i64 f.fl) := cells_of BF5.out 1
  have f2 : (w4.alloc (.cells #[.slice a0 f.pool.length c0, .int .i64 f.fl, .int .i64 f.this, .int .i64 f.super, .slice a4 f.ifs.length c4, .slice a5 f.fds.length c5, .slice a6 f.mts.length c6] 26)).cell? ⟨w.heap.size, 2, none⟩ = some (.int .i64 f.this) := cells_of BF5.out 2
  have f3 : (w4.alloc (.cells #[.slice a0 f.pool.length c0, .int .i64 f.fl, .int .i64 f.this, .int .i64 f.super, .slice a4 f.ifs.length c4, .slice a5 f.fds.length c5, .slice a6 f.mts.length c6] 26)).cell? ⟨w.heap.size, 3, none⟩ = some (.int .i64 f.super) := cells_of BF5.out 3
  have f4 : (w4.alloc (.cells #[.slice a0 f.pool.length c0, .int .i64 f.fl, .int .i64 f.this, .int .i64 f.super, .slice a4 f.ifs.length c4, .slice a5 f.fds.length c5, .slice a6 f.mts.length c6] 26)).cell? ⟨w.heap.size, 4, none⟩ = some (.slice Ai f.ifs.length ci) := cells_of BF5.out 4
  have f5 : (w4.alloc (.cells #[.slice a0 f.pool.length c0, .int .i64 f.fl, .int .i64 f.this, .int .i64 f.super, .slice a4 f.ifs.length c4, .slice a5 f.fds.length c5, .slice a6 f.mts.length c6] 26)).cell? ⟨w.heap.size, 5, none⟩ = some (.slice Af f.fds.length cf) := cells_of BF5.out 5
  have f6 : (w4.alloc (.cells #[.slice a0 f.pool.length c0, .int .i64 f.fl, .int .i64 f.this, .int .i64 f.super, .slice a4 f.ifs.length c4, .slice a5 f.fds.length c5, .slice a6 f.mts.length c6] 26)).cell? ⟨w.heap.size, 6, none⟩ = some (.slice Am f.mts.length cm) := cells_of BF5.out 6
  have ltf := lt_of_block BF5.out
  have g0 : (w4.alloc (.cells #[.slice a0 f.pool.length c0, .int .i64 f.fl, .int .i64 f.this, .int .i64 f.super, .slice a4 f.ifs.length c4, .slice a5 f.fds.length c5, .slice a6 f.mts.length c6] 26)).cell? ⟨w4.heap.size, 0, none⟩ = some (.slice a0 f.pool.length c0) := cells_of BG.out 0
  have g1 : (w4.alloc (.cells #[.slice a0 f.pool.length c0, .int .i64 f.fl, .int .i64 f.this, .int .i64 f.super, .slice a4 f.ifs.length c4, .slice a5 f.fds.length c5, .slice a6 f.mts.length c6] 26)).cell? ⟨w4.heap.size, 1, none⟩ = some (.int .i64 f.fl) := cells_of BG.out 1
  have g2 : (w4.alloc (.cells #[.slice a0 f.pool.length c0, .int .i64 f.fl, .int .i64 f.this, .int .i64 f.super, .slice a4 f.ifs.length c4, .slice a5 f.fds.length c5, .slice a6 f.mts.length c6] 26)).cell? ⟨w4.heap.size, 2, none⟩ = some (.int .i64 f.this) := cells_of BG.out 2
  have g3 : (w4.alloc (.cells #[.slice a0 f.pool.length c0, .int .i64 f.fl, .int .i64 f.this, .int .i64 f.super, .slice a4 f.ifs.length c4, .slice a5 f.fds.length c5, .slice a6 f.mts.length c6] 26)).cell? ⟨w4.heap.size, 3, none⟩ = some (.int .i64 f.super) := cells_of BG.out 3
  have g4 : (w4.alloc (.cells #[.slice a0 f.pool.length c0, .int .i64 f.fl, .int .i64 f.this, .int .i64 f.super, .slice a4 f.ifs.length c4, .slice a5 f.fds.length c5, .slice a6 f.mts.length c6] 26)).cell? ⟨w4.heap.size, 4, none⟩ = some (.slice a4 f.ifs.length c4) := cells_of BG.out 4
  have g5 : (w4.alloc (.cells #[.slice a0 f.pool.length c0, .int .i64 f.fl, .int .i64 f.this, .int .i64 f.super, .slice a4 f.ifs.length c4, .slice a5 f.fds.length c5, .slice a6 f.mts.length c6] 26)).cell? ⟨w4.heap.size, 5, none⟩ = some (.slice a5 f.fds.length c5) := cells_of BG.out 5
  have g6 : (w4.alloc (.cells #[.slice a0 f.pool.length c0, .int .i64 f.fl, .int .i64 f.this, .int .i64 f.super, .slice a4 f.ifs.length c4, .slice a5 f.fds.length c5, .slice a6 f.mts.length c6] 26)).cell? ⟨w4.heap.size, 6, none⟩ = some (.slice a6 f.mts.length c6) := cells_of BG.out 6
  have ltg := lt_of_block BG.out
  go_wp2_with fail
  refine (HSF.out).mono ?_
  rintro e w6 ⟨r, rfl, hr, hb⟩
  have hr1 : r = true := by simpa using hr
  subst hr1
  clear f0 f1 f2 f3 f4 f5 f6 ltf
  clear g0 g1 g2 g3 g4 g5 g6 ltg
  have BE6 := Lib.hid (BE5.out.trans (hb.mono BE5.out.size))
  clear hb hr
  have hT0 : (T.size : Int) ≠ 0 := by omega
  have HPK := Lib.hid (pick_any ai (T.size : Int) hai.1 hai.2 (by omega) (by omega) w6)
  go_wp2_with fail
  refine (HPK.out).mono ?_
  rintro e w7 ⟨k0, rfl, hk1, hk2, hb⟩
  have BE7 := Lib.hid (BE6.out.trans (hb.mono BE6.out.size))
  clear hb
  obtain ⟨k, rfl⟩ : ∃ k : Nat, k0 = k := ⟨k0.toNat, by omega⟩
  have hkT : (k : Int) ≤ T.size := by omega
  obtain ⟨p1, p2⟩ := H2'.out k (by rw [← HTS.out]; omega)
  have HLK := Lib.hid (show L (T.extract 0 k) = (fileN f).take k by rw [L_extract, HLN.out]; simp)
  have hks : (T.extract 0 k).size ≤ 9223372036854775807 := by rw [size_L, HLK.out, List.length_take]; omega
  have HP2 := Lib.hid (fun W => Parse_any (T.extract 0 k) hks W)
  rw [HLK.out, p1, p2] at HP2
  unfold flV zeroF at HP2
  simp only [List.length_nil] at HP2
  clear p1 p2 hks
  go_wp2_with fail
  refine (HP2.out _).mono ?_
  rintro e w8 ⟨b0, d0, b4, d4, b5, d5, b6, d6, rfl, hown, hb⟩
  have BE8 := Lib.hid (BE7.out.trans (hb.mono BE7.out.size))
  have BE9 := Lib.hid (BE8.out.alloc BE8.out.size (.cells #[.slice b0 0 d0, .int .i64 0, .int .i64 0, .int .i64 0, .slice b4 0 d4, .slice b5 0 d5, .slice b6 0 d6] 26))
  clear hown hb
  have hz1 : (⟨#[120]⟩ : ByteArray).size = 1 := rfl
  have hz2 : ∀ a b : ByteArray, (a ++ b).size = a.size + b.size := fun a b => ByteArray.size_append ..
  have hz3 : T.size + 1 ≤ 65537 := by omega
  obtain ⟨p1, p2⟩ := H3'.out
  have HLX := Lib.hid (show L (T ++ ⟨#[120]⟩) = fileN f ++ [120] by rw [← HLN.out]; unfold L; simp)
  have HP3 := Lib.hid (fun W => Parse_any (T ++ ⟨#[120]⟩) (by rw [hz2, hz1]; omega) W)
  rw [HLX.out, p1, p2, ← HTS.out] at HP3
  unfold flV zeroF at HP3
  simp only [List.length_nil] at HP3
  clear p1 p2
  rcases Classical.em (T.size = 65536) with hl | hl
  · rw [if_pos hl] at HP3
    have hl2 : (T.size : Int) = 65536 := by omega
    have hl3 : ((T.size : Int) == 65536) = true := by rw [hl2]; rfl
    clear hl hl2
    go_wp2_with fail
    refine (HP3.out _).mono ?_
    rintro e w10 ⟨i0, j0, i4, j4, i5, j5, i6, j6, rfl, hown, hb⟩
    have BE10 := Lib.hid (BE9.out.trans (hb.mono BE9.out.size))
    have BE11 := Lib.hid (BE10.out.alloc BE10.out.size (.cells #[.slice i0 0 j0, .int .i64 0, .int .i64 0, .int .i64 0, .slice i4 0 j4, .slice i5 0 j5, .slice i6 0 j6] 26))
    clear hown hb
    go_wp2
    go_ret
    exact ⟨rfl, BE11.out⟩
  · rw [if_neg hl] at HP3
    clear hl
    go_wp2_with fail
    refine (HP3.out _).mono ?_
    rintro e w10 ⟨i0, j0, i4, j4, i5, j5, i6, j6, rfl, hown, hb⟩
    have BE10 := Lib.hid (BE9.out.trans (hb.mono BE9.out.size))
    have BE11 := Lib.hid (BE10.out.alloc BE10.out.size (.cells #[.slice i0 0 j0, .int .i64 0, .int .i64 0, .int .i64 0, .slice i4 0 j4, .slice i5 0 j5, .slice i6 0 j6] 26))
    clear hown hb
    go_wp2
    go_ret
    exact ⟨rfl, BE11.out⟩
end Go.Proofs.Ytcgloepfnnfioaa
namespace Go.Proofs.Ytcgloepfnnfioaa.fileBack
open Go.ChangeShapes Go.WideShapes Go.ChangeAt Go.RowKit
open Go.ChangeMaps (open_string shut_string)

set_option maxRecDepth 100000 in
theorem lifted (os : Os) (started : os.Started) (H : Type) (enc : TypeId × Value → H) :
    ReturnsInHanded {} Try.checked os 5 .any (Rows.fileBackSpec.pre6 enc Try.prog Try.f5 Rows.fileBackRow.domain false) (Rows.fileBackSpec.post enc Try.prog Try.f5 false true false false) := by
  refine returnsInHanded_of_change_sized (C := Try.checked) own started (by kernel_rfl) Try.func5
    (ChangeSpec.witness6 (enc := enc) (C := Try.checked) false ⟨#[], #[.agg #[.slice none 0 0, .int .i64 0, .int .i64 0, .int .i64 0, .slice none 0 0, .slice none 0 0, .slice none 0 0], .int .i64 0], []⟩ 8 (by kernel_rfl) (by kernel_rfl) (by kernel_rfl) (by kernel_rfl)) ?_
  intro W base args ds gs before hval0 hW hcnd hsz0 _
  have hsz : (DataW.weightsEach Try.prog (Try.f5.params.toList ++ Rows.fileBackSpec.plain.varTypes Try.prog) (ds ++ gs)).all (· ≤ reachBytes) = true := hsz0
  clear hsz0
  have hval : ∀ (j : Nat) t v, Try.f5.params[j]? = some t → args[j]? = some v → Value.okWide Try.prog W .any base t v := hval0
  have hW' := hW
  obtain ⟨p, q, hA0, hV, rfl, hfz, hnd⟩ := hW
  have hA : DataW.TrodAll enc Try.prog W 0 (fun _ => true) true Try.f5.params.toList args.toList ds p := hA0
  rw [Try.params5] at hA hval hsz
  obtain ⟨v0, vs0, d0, ds0, p0, q0, hargs, rfl, rfl, h0, r0⟩ := trodAll_cons hA
  obtain ⟨v1, vs1, d1, ds1, p1, q1, rfl, rfl, rfl, h1, r1⟩ := trodAll_cons r0
  obtain ⟨rfl, rfl, rfl⟩ := trodAll_nil r1
  obtain rfl : args = #[v0, v1] := by cases args; simp_all
  obtain ⟨rfl, rfl⟩ := trodVars_none hV
  obtain ⟨a1, rfl, rfl, rfl, w1⟩ := open_int Try.underlying3 (hval 1 3 v1 rfl rfl) h1
  have k0 := h0
  have lt0 : ∀ x ∈ p0, x.block < W.heap.size := by obtain ⟨m, hm⟩ := k0; exact DataW.trod_lt m _ _ _ hm
  obtain ⟨f, hf, hf1, hf2, hf3⟩ := open_fileR (hval 0 26 v0 rfl rfl) h0 (fun k hk => of_decide_eq_true (List.all_eq_true.1 hsz _ (DataW.weights_mem_each (j := 0) rfl rfl k hk)))
  clear hA0 hval0
  have hb1 : -9223372036854775808 ≤ a1 ∧ a1 ≤ 9223372036854775807 := by
    have h := w1
    simp only [Lit.wf, Bool.and_eq_true, decide_eq_true_eq] at h
    exact h
  refine (back_walk f v0 W hf (Nat.le_refl _) ⟨fun c hc => (hf1 c hc).1, hf2, hf3⟩ (fun c hc => (hf1 c hc).2) a1 hb1).mono fun e W' ⟨he, bel⟩ => ?_
  subst he
  exact ⟨_, rfl, _, _, _, [], _, [], hW', trodAll_mk1 (shut_bool Try.underlying4 _), (trodAll_cons_mk (Below.trod laidOut (by kernel_rfl) (of_decide_eq_true (by kernel_rfl)) k0 bel lt0) (trodAll_cons_mk (shut_int Try.underlying3 w1) trodAll_mk0)), rfl, bel.frame _, fun h => by cases h⟩

theorem over : Rows.fileBackRow.holds Try.pinned (OpenSpec.ofChange Rows.fileBackSpec) :=
  OpenClaim.holds_of_wide 5 Try.f5 rfl rfl rfl rfl rfl rfl rfl ⟨rfl, rfl, rfl, rfl, rfl⟩ rfl rfl rfl rfl rfl (by kernel_rfl) Try.func5 (by kernel_rfl)
    (of_decide_eq_true (by kernel_rfl)) (by unfold Func.isWrapper; first | (rw [if_pos (by decide +kernel)]; kernel_rfl) | (rw [if_neg (by decide +kernel)]; exact ⟨rfl, rfl⟩))
    (fun os started H enc _ => lifted os started H enc)

theorem proved : Rows.FileBackSaid := over
end Go.Proofs.Ytcgloepfnnfioaa.fileBack
