/-
  WALKS of the errors of texts: of a name constant's, of a name, of a descriptor; of a link.
-/
import Derived.Test.YtcgloepfnnfioaaH1
import Derived.Test.YtcgloepfnnfioaaD8
set_option linter.unusedVariables false
set_option linter.unusedSimpArgs false
namespace Go.Proofs.Ytcgloepfnnfioaa
open Go.RowKit

theorem ret_i {a b : Int} (h : a = b) : Ending.returned (.int .i64 a) = .returned (.int .i64 b) := by rw [h]
theorem ret_b {a b : Bool} (h : a = b) : Ending.returned (.bool a) = .returned (.bool b) := by rw [h]
theorem own_form {w : World} {base : Nat} {t : TypeId} {s : Nat} {v : Value} {n : Nat} {xs : List Value} (h : w.ownsRow base t s v n xs) : ∃ a c, v = .slice a n c := by
  rcases h.2 with ⟨rfl, h0⟩ | ⟨g, cap, cur, rfl, hr⟩
  · exact ⟨_, _, by rw [h0]⟩
  · exact ⟨_, _, rfl⟩
/-- The error of a name constant's text; of a name; of the descriptors of a type and of a signature. -/
def runesE (s : ByteArray) : Int := if encE (L s) = 0 then (if 2000 < (runes (L s)).length then 2 else 0) else encE (L s)
def nameE (s : ByteArray) : Int := if nameL (L s) = true then 0 else 8
def typeE (s : ByteArray) : Int := match fieldL (L s) with | some _ => 0 | none => 9
def sigE (s : ByteArray) : Int := (res (methL (L s))).2.2.2
def pairE (p : List Cn) (i j : Int) (E : ByteArray → Int) : Int := if nameE (textP p i) = 0 then E (textP p j) else nameE (textP p i)
/-- No text is greater than memory. -/
def Texts (p : List Cn) : Prop := ∀ c ∈ p, c.text.size ≤ 1000000000000000
theorem textP_le {p : List Cn} (h : Texts p) (i : Int) : (textP p i).size ≤ 1000000000000000 := by
  unfold textP
  split
  · rename_i c hc
    split
    · exact h c (List.mem_of_getElem? hc)
    · show 0 ≤ _; omega
  · show 0 ≤ _; omega

set_option maxRecDepth 1000000 in
set_option maxHeartbeats 800000 in
theorem nameErr_any (s : ByteArray) (w : World) :
    Calls Try.prog 102 #[.string s] w fun e w' => e = .returned (.int .i64 (nameE s)) ∧ Below w.heap.size w w' := by
  have HN := fun W => Lib.hid (Name_any s W)
  have HE := Lib.hid (show nameE s = if nameL (L s) = true then 0 else 8 from rfl)
  obtain ⟨b, hb⟩ : ∃ b, nameL (L s) = b := ⟨_, rfl⟩
  rw [hb] at HN HE
  clear hb
  cases b
  all_goals
    go_enter Try.func102, Try.ntmps102
    go_wp2_with fail
    refine (HN _).out.mono ?_
    rintro e w1 ⟨rfl, hb⟩
    go_wp2
    go_ret
    exact ⟨ret_i HE.out.symm, hb⟩
set_option maxRecDepth 1000000 in
set_option maxHeartbeats 800000 in
theorem typeErr_any (s : ByteArray) (w : World) (hs : s.size ≤ 1000000000000000) :
    Calls Try.prog 80 #[.string s] w fun e w' => e = .returned (.int .i64 (typeE s)) ∧ Below w.heap.size w w' := by
  have HN := fun W => Lib.hid (Field_any s W (by omega))
  have HE := Lib.hid (show typeE s = match fieldL (L s) with | some _ => 0 | none => 9 from rfl)
  obtain ⟨x, hx⟩ : ∃ x, fieldL (L s) = x := ⟨_, rfl⟩
  rw [hx] at HN HE
  clear hx
  cases x with
  | none =>
    rw [show fdV none = .tuple #[.agg #[.int .i64 0, .string ⟨#[]⟩], .int .i64 9] from rfl] at HN
    go_enter Try.func80, Try.ntmps80
    go_wp2_with fail
    refine (HN _).out.mono ?_
    rintro e w1 ⟨rfl, hb⟩
    have HB := Lib.hid (hb.alloc hb.size (.cells #[.int .i64 0, .string ⟨#[]⟩] 98))
    clear hb
    go_wp2
    go_ret
    exact ⟨ret_i HE.out.symm, HB.out⟩
  | some q =>
    rw [show fdV (some q) = .tuple #[.agg #[.int .i64 q.1, .string (mkB q.2)], .int .i64 0] from rfl] at HN
    go_enter Try.func80, Try.ntmps80
    go_wp2_with fail
    refine (HN _).out.mono ?_
    rintro e w1 ⟨rfl, hb⟩
    have HB := Lib.hid (hb.alloc hb.size (.cells #[.int .i64 q.1, .string (mkB q.2)] 98))
    clear hb
    go_wp2
    go_ret
    exact ⟨ret_i HE.out.symm, HB.out⟩
set_option maxRecDepth 1000000 in
set_option maxHeartbeats 800000 in
theorem sigErr_any (s : ByteArray) (w : World) (hs : s.size ≤ 1000000000000000) :
    Calls Try.prog 81 #[.string s] w fun e w' => e = .returned (.int .i64 (sigE s)) ∧ Below w.heap.size w w' := by
  have HN := fun W => Lib.hid (Method_any s W (by omega))
  have HE := Lib.hid (show sigE s = (res (methL (L s))).2.2.2 from rfl)
  obtain ⟨⟨xs, ⟨d, nm⟩, vo, er⟩, hx⟩ : ∃ x, res (methL (L s)) = x := ⟨_, rfl⟩
  rw [hx] at HN HE
  clear hx
  unfold sgV at HN
  simp only at HN HE
  have HE' := HE.out
  go_enter Try.func81, Try.ntmps81
  go_wp2_with fail
  refine (HN _).out.mono ?_
  rintro e w1 ⟨v, rfl, own, hb⟩
  obtain ⟨a, c, rfl⟩ := own_form own
  generalize xs.length = n at *
  have HB := Lib.hid (hb.alloc hb.size (.cells #[.slice a n c, .int .i64 d, .string (mkB nm), .bool vo] 100))
  clear hb own
  go_wp2
  go_ret
  exact ⟨ret_i HE.out.symm, HB.out⟩
set_option maxRecDepth 1000000 in
set_option maxHeartbeats 800000 in
theorem runesErr_any (s : ByteArray) (w : World) (hs : s.size ≤ 1000000000000000) :
    Calls Try.prog 101 #[.string s] w fun e w' => e = .returned (.int .i64 (runesE s)) ∧ Below w.heap.size w w' := by
  have HN := fun W => Lib.hid (Encode_any s W (by omega))
  have HL := fun W => Lib.hid (Len_any s W (by unfold maxLen; omega))
  have HE := Lib.hid (show runesE s = if encE (L s) = 0 then (if 2000 < (runes (L s)).length then 2 else 0) else encE (L s) from rfl)
  have h3 : encE (L s) = 0 ∨ encE (L s) = 2 ∨ encE (L s) = 4 := by
    unfold encE
    split
    · split
      · exact .inl rfl
      · exact .inr (.inl rfl)
    · exact .inr (.inr rfl)
  obtain ⟨A, hA⟩ : ∃ A, strV (encA (L s)) = .string A := ⟨_, rfl⟩
  rw [hA] at HN
  generalize (runes (L s)).length = n at *
  generalize encE (L s) = x at *
  clear hA
  rcases h3 with rfl | rfl | rfl
  · by_cases hn : 2000 < n
    all_goals
      have hn' : (2000 < (n : Int)) ∨ (n : Int) ≤ 2000 := by omega
      go_enter Try.func101, Try.ntmps101
      go_wp2_with fail
      refine (HN _).out.mono ?_
      rintro e w1 ⟨rfl, hb⟩
      go_wp2_with fail
      refine (HL _).out.mono ?_
      rintro e w2 ⟨rfl, pos, rfl⟩
      have HB := Lib.hid (hb.alloc hb.size (.stringIter s pos))
      clear hb
      go_wp2
      go_ret
      exact ⟨ret_i (by rw [HE.out]; simp [hn]), HB.out⟩
  all_goals
    go_enter Try.func101, Try.ntmps101
    go_wp2_with fail
    refine (HN _).out.mono ?_
    rintro e w1 ⟨rfl, hb⟩
    go_wp2
    go_ret
    exact ⟨ret_i HE.out.symm, hb⟩
theorem nameE_cases (s : ByteArray) : nameE s = 0 ∨ nameE s = 8 := by
  unfold nameE
  split
  · exact .inl rfl
  · exact .inr rfl
theorem FileAt.max {B : Nat} {w : World} {v : Value} {f : Fl} (h : FileAt B w v f) : f.pool.length ≤ 9223372036854775807 ∧ f.ifs.length ≤ 9223372036854775807 ∧ f.fds.length ≤ 9223372036854775807 ∧ f.mts.length ≤ 9223372036854775807 := by
  obtain ⟨Ap, cp, Ai, ci, Af, cf, Am, cm, rfl, h1, h2, ⟨_, _, _, h3⟩, ⟨_, _, _, h4⟩⟩ := h
  obtain ⟨_, _, _, _, m1, _⟩ := h1
  obtain ⟨_, _, _, _, m2, _⟩ := h2
  obtain ⟨_, _, _, _, m3, _⟩ := h3
  obtain ⟨_, _, _, _, m4, _⟩ := h4
  unfold maxLen at m1 m2 m3 m4
  omega
/-- The functions that answer a descriptor's error. -/
def Tells (g : FuncId) (E : ByteArray → Int) : Prop := (g = 80 ∧ E = typeE) ∨ (g = 81 ∧ E = sigE)
theorem Tells.any {g : FuncId} {E : ByteArray → Int} (h : Tells g E) (s : ByteArray) (W : World) (hs : s.size ≤ 1000000000000000) : Calls Try.prog g #[.string s] W fun e w' => e = .returned (.int .i64 (E s)) ∧ Below W.heap.size W w' := by
  rcases h with ⟨rfl, rfl⟩ | ⟨rfl, rfl⟩
  · exact typeErr_any s W hs
  · exact sigErr_any s W hs
set_option maxRecDepth 1000000 in
set_option maxHeartbeats 800000 in
theorem pairErr_any {B : Nat} (f : Fl) (v : Value) (w : World) (hf : FileAt B w v f) (hB : B ≤ w.heap.size) (ht : Texts f.pool) (i k : Int) (g : FuncId) (E : ByteArray → Int) (hg : Tells g E) :
    Calls Try.prog 103 #[v, .int .i64 i, .int .i64 k, .func (.func g) #[] #[]] w fun e w' => e = .returned (.int .i64 (pairE f.pool i k E)) ∧ Below w.heap.size w w' := by
  have HT := Lib.hid (fun V W hW hWB j => textOf_any (B := B) f V W hW hWB j)
  have HN := fun W => Lib.hid (nameErr_any (textP f.pool i) W)
  have HG := fun W => Lib.hid (hg.any (textP f.pool k) W (textP_le ht k))
  have HE := Lib.hid (show pairE f.pool i k E = if nameE (textP f.pool i) = 0 then E (textP f.pool k) else nameE (textP f.pool i) from rfl)
  have h8 := nameE_cases (textP f.pool i)
  obtain ⟨Ap, cp, Ai, ci, Af, cf, Am, cm, rfl, hi⟩ := id hf
  have HBE := Lib.hid ((Below.refl w.heap.size w).alloc (Nat.le_refl _) (.cells #[.slice Ap f.pool.length cp, .int .i64 f.fl, .int .i64 f.this, .int .i64 f.super, .slice Ai f.ifs.length ci, .slice Af f.fds.length cf, .slice Am f.mts.length cm] 26))
  have HFL := Lib.hid (hf.alloc hB (.cells #[.slice Ap f.pool.length cp, .int .i64 f.fl, .int .i64 f.this, .int .i64 f.super, .slice Ai f.ifs.length ci, .slice Af f.fds.length cf, .slice Am f.mts.length cm] 26))
  have HFL0 := Lib.hid hf
  clear hi hf
  rcases hg with ⟨rfl, rfl⟩ | ⟨rfl, rfl⟩
  all_goals (rcases h8 with h8 | h8)
  all_goals
    rw [h8] at HN HE
    clear h8
    go_enter Try.func103, Try.ntmps103
    go_wp2_with fail
    refine (HT.out _ _ HFL.out (by simp; omega) i).mono ?_
    rintro e w1 ⟨rfl, hb⟩
    have HB1 := Lib.hid (Below.link HBE.out hb)
    have FL1 := Lib.hid (HFL0.out.link hB hb)
    have c0 := filecells hb 0
    have c1 := filecells hb 1
    have c2 := filecells hb 2
    have c3 := filecells hb 3
    have c4 := filecells hb 4
    have c5 := filecells hb 5
    have c6 := filecells hb 6
    simp at c0 c1 c2 c3 c4 c5 c6
    have hz := filefree hb
    clear hb
    go_wp2_with fail
    refine (HN _).out.mono ?_
    rintro e w2 ⟨rfl, hb⟩
    have HB2 := Lib.hid (Below.link HB1.out hb)
    have FL2 := Lib.hid (FL1.out.below hb (by omega))
    have d0 := keepc hb (B := w.heap.size + 1) (by omega) (by omega) c0
    have d1 := keepc hb (B := w.heap.size + 1) (by omega) (by omega) c1
    have d2 := keepc hb (B := w.heap.size + 1) (by omega) (by omega) c2
    have d3 := keepc hb (B := w.heap.size + 1) (by omega) (by omega) c3
    have d4 := keepc hb (B := w.heap.size + 1) (by omega) (by omega) c4
    have d5 := keepc hb (B := w.heap.size + 1) (by omega) (by omega) c5
    have d6 := keepc hb (B := w.heap.size + 1) (by omega) (by omega) c6
    have hz2 : w.heap.size < w2.heap.size := Nat.lt_of_lt_of_le hz hb.size
    clear hb c0 c1 c2 c3 c4 c5 c6
  · go_wp2_with fail
    refine (HT.out _ _ FL2.out (by omega) k).mono ?_
    rintro e w3 ⟨rfl, hb⟩
    have HB3 := Lib.hid (Below.link HB2.out hb)
    clear hb
    go_wp2_with fail
    refine (HG _).out.mono ?_
    rintro e w4 ⟨rfl, hb⟩
    have HB4 := Lib.hid (Below.link HB3.out hb)
    clear hb
    go_wp2
    go_ret
    exact ⟨ret_i (by rw [HE.out]; simp), HB4.out⟩
  · go_wp2
    go_ret
    exact ⟨ret_i (by rw [HE.out]; simp), HB2.out⟩
  · go_wp2_with fail
    refine (HT.out _ _ FL2.out (by omega) k).mono ?_
    rintro e w3 ⟨rfl, hb⟩
    have HB3 := Lib.hid (Below.link HB2.out hb)
    clear hb
    go_wp2_with fail
    refine (HG _).out.mono ?_
    rintro e w4 ⟨rfl, hb⟩
    have HB4 := Lib.hid (Below.link HB3.out hb)
    clear hb
    go_wp2
    go_ret
    exact ⟨ret_i (by rw [HE.out]; simp), HB4.out⟩
  · go_wp2
    go_ret
    exact ⟨ret_i (by rw [HE.out]; simp), HB2.out⟩
def noneB (p : List Cn) (i : Int) : Bool := decide (i = 0) || tagged p i 4
set_option maxRecDepth 1000000 in
set_option maxHeartbeats 800000 in
theorem noneOrClass_any {B : Nat} (f : Fl) (v : Value) (w : World) (hf : FileAt B w v f) (hB : B ≤ w.heap.size) (i : Int) :
    Calls Try.prog 76 #[v, .int .i64 i] w fun e w' => e = .returned (.bool (noneB f.pool i)) ∧ Below w.heap.size w w' := by
  have HH := Lib.hid (fun b V W hW hWB h => has_at (B := B) b f V W hW hWB i 4 h)
  obtain ⟨Ap, cp, Ai, ci, Af, cf, Am, cm, rfl, hi⟩ := id hf
  have HBE := Lib.hid ((Below.refl w.heap.size w).alloc (Nat.le_refl _) (.cells #[.slice Ap f.pool.length cp, .int .i64 f.fl, .int .i64 f.this, .int .i64 f.super, .slice Ai f.ifs.length ci, .slice Af f.fds.length cf, .slice Am f.mts.length cm] 26))
  have HFL := Lib.hid (hf.alloc hB (.cells #[.slice Ap f.pool.length cp, .int .i64 f.fl, .int .i64 f.this, .int .i64 f.super, .slice Ai f.ifs.length ci, .slice Af f.fds.length cf, .slice Am f.mts.length cm] 26))
  have HNB := Lib.hid (show noneB f.pool i = (decide (i = 0) || tagged f.pool i 4) from rfl)
  clear hi hf
  by_cases h0 : i = 0
  · subst h0
    go_enter Try.func76, Try.ntmps76
    go_wp2
    go_ret
    exact ⟨ret_b (by rw [HNB.out]; rfl), HBE.out⟩
  · cases h : tagged f.pool i 4
    all_goals
      have H := Lib.hid h
      have hi0 : (i == 0) = false := by simpa using h0
      clear h
      go_enter Try.func76, Try.ntmps76
      go_wp2_with fail
      refine (HH.out _ _ _ HFL.out (by simp; omega) H.out).mono ?_
      rintro e w1 ⟨rfl, hb⟩
      have HB1 := Lib.hid (Below.link HBE.out hb)
      clear hb
      go_wp2
      go_ret
      exact ⟨ret_b (by rw [HNB.out, H.out]; simp [h0]), HB1.out⟩
theorem none_at {B : Nat} (b : Bool) (f : Fl) (v : Value) (w : World) (hf : FileAt B w v f) (hB : B ≤ w.heap.size) (i : Int) (h : noneB f.pool i = b) :
    Calls Try.prog 76 #[v, .int .i64 i] w fun e w' => e = .returned (.bool b) ∧ Below w.heap.size w w' := by
  have := noneOrClass_any f v w hf hB i
  rwa [h] at this
/-- Whether a link leads to a constant with that tag; with the tag 0, whether there is none. -/
def linkB (p : List Cn) (i t : Int) : Bool := if t = 0 then decide (i = 0) else tagged p i t
set_option maxRecDepth 1000000 in
set_option maxHeartbeats 800000 in
theorem rightLink_any {B : Nat} (f : Fl) (v : Value) (w : World) (hf : FileAt B w v f) (hB : B ≤ w.heap.size) (i t : Int) :
    Calls Try.prog 74 #[v, .int .i64 i, .int .i64 t] w fun e w' => e = .returned (.bool (linkB f.pool i t)) ∧ Below w.heap.size w w' := by
  have HH := Lib.hid (fun V W hW hWB => has_any (B := B) f V W hW hWB i t)
  obtain ⟨Ap, cp, Ai, ci, Af, cf, Am, cm, rfl, hi⟩ := id hf
  have HBE := Lib.hid ((Below.refl w.heap.size w).alloc (Nat.le_refl _) (.cells #[.slice Ap f.pool.length cp, .int .i64 f.fl, .int .i64 f.this, .int .i64 f.super, .slice Ai f.ifs.length ci, .slice Af f.fds.length cf, .slice Am f.mts.length cm] 26))
  have HFL := Lib.hid (hf.alloc hB (.cells #[.slice Ap f.pool.length cp, .int .i64 f.fl, .int .i64 f.this, .int .i64 f.super, .slice Ai f.ifs.length ci, .slice Af f.fds.length cf, .slice Am f.mts.length cm] 26))
  have HNB := Lib.hid (show linkB f.pool i t = if t = 0 then decide (i = 0) else tagged f.pool i t from rfl)
  clear hi hf
  generalize linkB f.pool i t = R at *
  by_cases h0 : t = 0
  · subst h0
    go_enter Try.func74, Try.ntmps74
    go_wp2
    go_ret
    exact ⟨ret_b (by rw [HNB.out]; simp; rfl), HBE.out⟩
  · have hi0 : (t == 0) = false := by simpa using h0
    generalize tagged f.pool i t = T at *
    go_enter Try.func74, Try.ntmps74
    go_wp2_with fail
    refine (HH.out _ _ HFL.out (by simp; omega)).mono ?_
    rintro e w1 ⟨rfl, hb⟩
    have HB1 := Lib.hid (Below.link HBE.out hb)
    clear hb
    go_wp2
    go_ret
    exact ⟨ret_b (by rw [HNB.out, if_neg h0]), HB1.out⟩
theorem rightLink_at {B : Nat} (b : Bool) (f : Fl) (v : Value) (w : World) (hf : FileAt B w v f) (hB : B ≤ w.heap.size) (i t : Int) (h : linkB f.pool i t = b) :
    Calls Try.prog 74 #[v, .int .i64 i, .int .i64 t] w fun e w' => e = .returned (.bool b) ∧ Below w.heap.size w w' := by
  have := rightLink_any f v w hf hB i t
  rwa [h] at this
end Go.Proofs.Ytcgloepfnnfioaa
