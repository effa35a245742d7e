/-
  WALKS of the document's arena: Size, Read, Write, Fits, Words, Used.
-/
import Derived.Test.YtmgpimibnogcaaaR2
set_option linter.unusedVariables false
set_option linter.unusedSimpArgs false
namespace Go.Proofs.Ytmgpimibnogcaaa
open Go.RowKit

section
variable {r rp : Nat} {Bs pre post : List Blk} {c : Blk} {w : World}
set_option maxRecDepth 1000000 in
set_option maxHeartbeats 3200000 in
theorem rsize_none (hw : Wf Bs) (h : RM r rp (words Bs) w) (x : Int) (hx : x ∉ usedL 1 Bs) :
    Calls Try.prog 35 #[.pointer (some ⟨r, 0, none⟩), .int .i64 x] w fun e w' => e = .returned (.tuple #[.int .i64 0, .bool false]) ∧ w' = w := by
  have HU := Lib.hid (rused_any r rp Bs w hw h x)
  have HX := Lib.hid hx
  clear hw h hx
  go_enter Try.func35, Try.ntmps35
  go_wp2_with fail
  refine HU.out.mono ?_
  rintro e w' ⟨⟨u, rfl, hu⟩, rfl⟩
  obtain rfl : u = false := by
    cases u with
    | false => rfl
    | true => exact absurd (hu.1 rfl) HX.out
  clear hu
  go_wp2
  go_ret2
  exact ⟨rfl, rfl⟩
set_option maxRecDepth 1000000 in
set_option maxHeartbeats 3200000 in
theorem rsize_used (hw : Wf (pre ++ c :: post)) (h : RM r rp (words (pre ++ c :: post)) w) (hu : c.us = true) :
    Calls Try.prog 35 #[.pointer (some ⟨r, 0, none⟩), .int .i64 ((1 + len pre : Nat) : Int)] w fun e w' => e = .returned (.tuple #[.int .i64 (c.body.length : Int), .bool true]) ∧ w' = w := by
  have HU := Lib.hid (rused_any r rp _ w hw h ((1 + len pre : Nat) : Int))
  have HX := Lib.hid (usedL_at (a := 1) (pre := pre) (post := post) hu)
  obtain ⟨f1, f2, f3, f4, f5, _⟩ := at_facts hw rfl
  have c0 := h.box
  rw [words_length] at c0
  have c1 := h.word f1
  obtain ⟨l1, l2⟩ := h.lt
  obtain ⟨hb1, hb2⟩ := wf_bound hw
  have hdv := c.hd_half
  have hsz : c.sz = c.body.length + 1 := rfl
  have hw1 : IntKind.i64.wrap ((c.sz : Int) - 1) = (c.body.length : Int) := by rw [IntWalk.i64_in _ (by omega)]; omega
  have f2i : ((1 + len pre : Nat) : Int) < ((1 + len (pre ++ c :: post) : Nat) : Int) := by omega
  clear hw h f1
  generalize 1 + len (pre ++ c :: post) = N at *
  generalize 1 + len pre = a at *
  generalize c.hd = hd at *
  generalize c.sz = s at *
  generalize c.body.length = bl at *
  go_enter Try.func35, Try.ntmps35
  go_wp2_with fail
  refine HU.out.mono ?_
  rintro e w' ⟨⟨u, rfl, hu'⟩, rfl⟩
  obtain rfl : u = true := hu'.2 HX.out
  clear hu'
  go_wp2
  go_ret2
  exact ⟨rfl, rfl⟩
set_option maxRecDepth 1000000 in
set_option maxHeartbeats 3200000 in
theorem rread_none (hw : Wf Bs) (h : RM r rp (words Bs) w) (x i : Int) (hx : x ∉ usedL 1 Bs) :
    Calls Try.prog 34 #[.pointer (some ⟨r, 0, none⟩), .int .i64 x, .int .i64 i] w fun e w' => e = .returned (.tuple #[.int .i64 0, .int .i64 24]) ∧ w' = w := by
  have HS := Lib.hid (rsize_none hw h x hx)
  clear hw h hx
  go_enter Try.func34, Try.ntmps34
  go_wp2_with fail
  refine HS.out.mono ?_
  rintro e w' ⟨rfl, rfl⟩
  go_wp2
  go_ret2
  exact ⟨rfl, rfl⟩
set_option maxRecDepth 1000000 in
set_option maxHeartbeats 3200000 in
theorem rread_bad (hw : Wf (pre ++ c :: post)) (h : RM r rp (words (pre ++ c :: post)) w) (hu : c.us = true) (i : Int) (hi : ¬ (0 ≤ i ∧ i < (c.body.length : Int))) :
    Calls Try.prog 34 #[.pointer (some ⟨r, 0, none⟩), .int .i64 ((1 + len pre : Nat) : Int), .int .i64 i] w fun e w' => e = .returned (.tuple #[.int .i64 0, .int .i64 1]) ∧ w' = w := by
  have HS := Lib.hid (rsize_used hw h hu)
  clear hw h hu
  generalize 1 + len pre = a at *
  generalize c.body.length = bl at *
  by_cases h0 : i < 0
  · go_enter Try.func34, Try.ntmps34
    go_wp2_with fail
    refine HS.out.mono ?_
    rintro e w' ⟨rfl, rfl⟩
    go_wp2
    go_ret2
    exact ⟨rfl, rfl⟩
  · have h1 : (bl : Int) ≤ i := by omega
    clear hi
    go_enter Try.func34, Try.ntmps34
    go_wp2_with fail
    refine HS.out.mono ?_
    rintro e w' ⟨rfl, rfl⟩
    go_wp2
    go_ret2
    exact ⟨rfl, rfl⟩
set_option maxRecDepth 1000000 in
set_option maxHeartbeats 3200000 in
theorem rread_ok (hw : Wf (pre ++ c :: post)) (h : RM r rp (words (pre ++ c :: post)) w) (hu : c.us = true) (j : Nat) (v : Int) (hv : c.body[j]? = some v) :
    Calls Try.prog 34 #[.pointer (some ⟨r, 0, none⟩), .int .i64 ((1 + len pre : Nat) : Int), .int .i64 (j : Int)] w fun e w' => e = .returned (.tuple #[.int .i64 v, .int .i64 0]) ∧ w' = w := by
  have HS := Lib.hid (rsize_used hw h hu)
  obtain ⟨f1, f2, f3, f4, f5, f6, f7⟩ := at_facts hw rfl
  have hj : j < c.body.length := (List.getElem?_eq_some_iff.1 hv).1
  have hsz : c.sz = c.body.length + 1 := rfl
  have c0 := h.box
  have hwl := words_length (pre ++ c :: post)
  rw [hwl] at c0
  have c1 := h.word (show (words (pre ++ c :: post))[1 + len pre + 1 + j]? = some v by rw [words_body pre c post j hj]; exact hv)
  obtain ⟨l1, l2⟩ := h.lt
  obtain ⟨hb1, hb2⟩ := wf_bound hw
  have hN : 1 + len pre + 1 + j < 1 + len (pre ++ c :: post) := by rw [len_append, len_cons]; omega
  have hw1 : IntKind.i64.wrap (((1 + len pre : Nat) : Int) + 1) = ((1 + len pre + 1 : Nat) : Int) := by rw [IntWalk.i64_in _ (by omega)]; omega
  have hw2 : IntKind.i64.wrap (((1 + len pre + 1 : Nat) : Int) + (j : Int)) = ((1 + len pre + 1 + j : Nat) : Int) := by rw [IntWalk.i64_in _ (by omega)]; omega
  have hNi : ((1 + len pre + 1 + j : Nat) : Int) < ((1 + len (pre ++ c :: post) : Nat) : Int) := by omega
  have hji : (j : Int) < (c.body.length : Int) := by omega
  have h0 : ¬ (j : Int) < 0 := by omega
  clear hw h hu f1 f6 f7 hv hwl
  generalize 1 + len (pre ++ c :: post) = N at *
  generalize hA2 : 1 + len pre + 1 + j = a2 at *
  clear hA2
  generalize hA1 : 1 + len pre + 1 = a1 at *
  clear hA1
  generalize 1 + len pre = a at *
  generalize c.body.length = bl at *
  clear f2 f3 f4 f5 hsz
  go_enter Try.func34, Try.ntmps34
  go_wp2_with fail
  refine HS.out.mono ?_
  rintro e w' ⟨rfl, rfl⟩
  go_wp2
  go_ret2
  exact ⟨rfl, rfl⟩
set_option maxRecDepth 1000000 in
set_option maxHeartbeats 3200000 in
theorem rwrite_no (x i v f : Int) (z : Int) (hf : f ≠ 0) (h : Calls Try.prog 34 #[.pointer (some ⟨r, 0, none⟩), .int .i64 x, .int .i64 i] w fun e w' => e = .returned (.tuple #[.int .i64 z, .int .i64 f]) ∧ w' = w) :
    Calls Try.prog 33 #[.pointer (some ⟨r, 0, none⟩), .int .i64 x, .int .i64 i, .int .i64 v] w fun e w' => e = .returned (.int .i64 f) ∧ w' = w := by
  have HR := Lib.hid h
  have hf2 : ((f : Int) == 0) = false := by rw [beq_eq_false_iff_ne]; exact hf
  clear h
  go_enter Try.func33, Try.ntmps33
  go_wp2_with fail
  refine HR.out.mono ?_
  rintro e w' ⟨rfl, rfl⟩
  go_wp2
  go_ret
  exact ⟨rfl, rfl⟩
set_option maxRecDepth 1000000 in
set_option maxHeartbeats 3200000 in
theorem rwrite_ok (hw : Wf (pre ++ c :: post)) (h : RM r rp (words (pre ++ c :: post)) w) (hu : c.us = true) (j : Nat) (v : Int) (hj : j < c.body.length) :
    Calls Try.prog 33 #[.pointer (some ⟨r, 0, none⟩), .int .i64 ((1 + len pre : Nat) : Int), .int .i64 (j : Int), .int .i64 v] w fun e w' => e = .returned (.int .i64 0) ∧ RM r rp (words (pre ++ putW c j v :: post)) w' ∧ Upd [rp] w w' := by
  obtain ⟨y, hy⟩ : ∃ y, c.body[j]? = some y := ⟨_, List.getElem?_eq_getElem hj⟩
  have HR := Lib.hid (rread_ok hw h hu j y hy)
  obtain ⟨f1, f2, f3, f4, f5, f6, f7⟩ := at_facts hw rfl
  have hsz : c.sz = c.body.length + 1 := rfl
  have c0 := h.box
  have hwl := words_length (pre ++ c :: post)
  rw [hwl] at c0
  have c1 := h.word (show (words (pre ++ c :: post))[1 + len pre + 1 + j]? = some y by rw [words_body pre c post j hj]; exact hy)
  have hfr := h.free (1 + len pre + 1 + j)
  obtain ⟨l1, l2⟩ := h.lt
  obtain ⟨hb1, hb2⟩ := wf_bound hw
  have hN : 1 + len pre + 1 + j < 1 + len (pre ++ c :: post) := by rw [len_append, len_cons]; omega
  have hw1 : IntKind.i64.wrap (((1 + len pre : Nat) : Int) + 1) = ((1 + len pre + 1 : Nat) : Int) := by rw [IntWalk.i64_in _ (by omega)]; omega
  have hw2 : IntKind.i64.wrap (((1 + len pre + 1 : Nat) : Int) + (j : Int)) = ((1 + len pre + 1 + j : Nat) : Int) := by rw [IntWalk.i64_in _ (by omega)]; omega
  have hNi : ((1 + len pre + 1 + j : Nat) : Int) < ((1 + len (pre ++ c :: post) : Nat) : Int) := by omega
  have R2 := Lib.hid (show RM r rp (words (pre ++ putW c j v :: post)) (w.setCell ⟨rp, 1 + len pre + 1 + j, none⟩ (.int .i64 v)) by have := h.store (1 + len pre + 1 + j) v; rwa [words_putW pre post c j v hj] at this)
  clear hw h hu f1 f6 f7 hy hwl
  generalize 1 + len (pre ++ c :: post) = N at *
  generalize hA2 : 1 + len pre + 1 + j = a2 at *
  clear hA2
  generalize hA1 : 1 + len pre + 1 = a1 at *
  clear hA1
  generalize 1 + len pre = a at *
  clear f2 f3 f4 f5 hsz hj
  go_enter Try.func33, Try.ntmps33
  go_wp2_with fail
  refine HR.out.mono ?_
  rintro e w' ⟨rfl, rfl⟩
  go_wp2
  go_ret
  exact ⟨rfl, R2.out, Upd.set (by simp)⟩
end
/-- The answer whether a block fits. -/
def FitsAns (Bs : List Blk) (n : Int) (e : Ending) : Prop := ∃ u : Bool, e = .returned (.bool u) ∧ (u = true ↔ (1 ≤ n ∧ n ≤ 1048576) ∧ ∃ c ∈ Bs, c.us = false ∧ n.toNat + 1 ≤ c.sz)
set_option maxRecDepth 1000000 in
set_option maxHeartbeats 3200000 in
theorem rfits_any (r rp : Nat) (Bs : List Blk) (w : World) (hw : Wf Bs) (h : RM r rp (words Bs) w) (n : Int) :
    Calls Try.prog 30 #[.pointer (some ⟨r, 0, none⟩), .int .i64 n] w fun e w' => FitsAns Bs n e ∧ ∃ d, w' = w.drewN d := by
  by_cases h1 : 1 ≤ n
  · by_cases h2 : n ≤ 1048576
    · obtain ⟨m, rfl⟩ : ∃ m : Nat, n = m := ⟨n.toNat, by omega⟩
      have HB := Lib.hid (rbest_any r rp Bs w hw h m (by omega))
      clear hw h
      go_enter Try.func30, Try.ntmps30
      go_wp2_with fail
      refine HB.out.mono ?_
      rintro e w' ⟨⟨best, size, rfl, hs⟩, d, rfl⟩
      have HSEL := Lib.hid hs
      have H12 := Lib.hid (And.intro h1 h2)
      clear hs
      by_cases hb : 0 < best
      · have hbi : (0 : Int) < (best : Int) := by omega
        go_wp2
        go_ret
        exact ⟨⟨true, rfl, ⟨fun _ => ⟨H12.out, HSEL.out.some_iff.2 hb⟩, fun _ => rfl⟩⟩, d, rfl⟩
      · have hbi : ((0 : Int) < (best : Int)) = False := eq_false (by omega)
        go_wp2
        go_ret
        exact ⟨⟨false, rfl, ⟨fun h => Bool.noConfusion h, fun h => absurd (HSEL.out.some_iff.1 h.2) hb⟩⟩, d, rfl⟩
    · have h2f : (n ≤ 1048576) = False := eq_false h2
      have H2 := Lib.hid h2
      clear hw h h2
      go_enter Try.func30, Try.ntmps30
      go_wp2
      go_ret
      exact ⟨⟨false, rfl, ⟨fun h => Bool.noConfusion h, fun h => by have := h.1.2; have := H2.out; omega⟩⟩, 0, rfl⟩
  · have h1f : (1 ≤ n) = False := eq_false h1
    have H1 := Lib.hid h1
    clear hw h h1
    go_enter Try.func30, Try.ntmps30
    go_wp2
    go_ret
    exact ⟨⟨false, rfl, ⟨fun h => Bool.noConfusion h, fun h => by have := h.1.1; have := H1.out; omega⟩⟩, 0, rfl⟩
end Go.Proofs.Ytmgpimibnogcaaa
