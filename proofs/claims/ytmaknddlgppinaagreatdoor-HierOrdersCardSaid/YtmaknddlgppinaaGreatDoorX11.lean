/-
  CUT and joined from the texts of this seat: E1 D9 A1 E2
-/
import Derived.Test.YtmaknddlgppinaaGreatDoorX08
import Derived.Test.YtmaknddlgppinaaGreatDoorX10
import Derived.LoopN
set_option linter.unusedVariables false
set_option linter.unusedSimpArgs false
/-! E1 -/
namespace Go.Proofs.YtmaknddlgppinaaGreatDoor
open Go.RowKit

theorem ret_i {a b : Int} (h : a = b) : Ending.returned (.int .i64 a) = .returned (.int .i64 b) := by rw [h]
theorem ret_b {a b : Bool} (h : a = b) : Ending.returned (.bool a) = .returned (.bool b) := by rw [h]
theorem own_form {w : World} {base : Nat} {t : TypeId} {s : Nat} {v : Value} {n : Nat} {xs : List Value} (h : w.ownsRow base t s v n xs) : ∃ a c, v = .slice a n c := by
  rcases h.2 with ⟨rfl, h0⟩ | ⟨g, cap, cur, rfl, hr⟩
  · exact ⟨_, _, by rw [h0]⟩
  · exact ⟨_, _, rfl⟩
/-- The error of a name constant's text; of a name; of the descriptors of a type and of a signature. -/
def runesE (s : ByteArray) : Int := if encE (L s) = 0 then (if 2000 < (runes (L s)).length then 2 else 0) else encE (L s)
def nameE (s : ByteArray) : Int := if nameL (L s) = true then 0 else 8
def typeE (s : ByteArray) : Int := match fieldL (L s) with | some _ => 0 | none => 9
def sigE (s : ByteArray) : Int := (res (methL (L s))).2.2.2
def pairE (p : List Cn) (i j : Int) (E : ByteArray → Int) : Int := if nameE (textP p i) = 0 then E (textP p j) else nameE (textP p i)
/-- No text is greater than memory. -/
def Texts (p : List Cn) : Prop := ∀ c ∈ p, c.text.size ≤ 1000000000000000
theorem textP_le {p : List Cn} (h : Texts p) (i : Int) : (textP p i).size ≤ 1000000000000000 := by
  unfold textP
  split
  · rename_i c hc
    split
    · exact h c (List.mem_of_getElem? hc)
    · show 0 ≤ _; omega
  · show 0 ≤ _; omega
set_option maxRecDepth 1000000 in
set_option maxHeartbeats 800000 in
theorem nameErr_any (s : ByteArray) (w : World) :
    Calls Tryz.prog 190 #[.string s] w fun e w' => e = .returned (.int .i64 (nameE s)) ∧ Below w.heap.size w w' := by
  have HN := fun W => Lib.hid (Name_any s W)
  have HE := Lib.hid (show nameE s = if nameL (L s) = true then 0 else 8 from rfl)
  obtain ⟨b, hb⟩ : ∃ b, nameL (L s) = b := ⟨_, rfl⟩
  rw [hb] at HN HE
  clear hb
  cases b
  all_goals
    go_enter Tryz.func190, Tryz.ntmps190
    go_wp2_with fail
    refine (HN _).out.mono ?_
    rintro e w1 ⟨rfl, hb⟩
    go_wp2
    go_ret
    exact ⟨ret_i HE.out.symm, hb⟩
set_option maxRecDepth 1000000 in
set_option maxHeartbeats 800000 in
theorem typeErr_any (s : ByteArray) (w : World) (hs : s.size ≤ 1000000000000000) :
    Calls Tryz.prog 182 #[.string s] w fun e w' => e = .returned (.int .i64 (typeE s)) ∧ Below w.heap.size w w' := by
  have HN := fun W => Lib.hid (Field_any s W (by omega))
  have HE := Lib.hid (show typeE s = match fieldL (L s) with | some _ => 0 | none => 9 from rfl)
  obtain ⟨x, hx⟩ : ∃ x, fieldL (L s) = x := ⟨_, rfl⟩
  rw [hx] at HN HE
  clear hx
  cases x with
  | none =>
    rw [show fdV none = .tuple #[.agg #[.int .i64 0, .string ⟨#[]⟩], .int .i64 9] from rfl] at HN
    go_enter Tryz.func182, Tryz.ntmps182
    go_wp2_with fail
    refine (HN _).out.mono ?_
    rintro e w1 ⟨rfl, hb⟩
    have HB := Lib.hid (hb.alloc hb.size (.cells #[.int .i64 0, .string ⟨#[]⟩] 31))
    clear hb
    go_wp2
    go_ret
    exact ⟨ret_i HE.out.symm, HB.out⟩
  | some q =>
    rw [show fdV (some q) = .tuple #[.agg #[.int .i64 q.1, .string (mkB q.2)], .int .i64 0] from rfl] at HN
    go_enter Tryz.func182, Tryz.ntmps182
    go_wp2_with fail
    refine (HN _).out.mono ?_
    rintro e w1 ⟨rfl, hb⟩
    have HB := Lib.hid (hb.alloc hb.size (.cells #[.int .i64 q.1, .string (mkB q.2)] 31))
    clear hb
    go_wp2
    go_ret
    exact ⟨ret_i HE.out.symm, HB.out⟩
set_option maxRecDepth 1000000 in
set_option maxHeartbeats 800000 in
theorem sigErr_any (s : ByteArray) (w : World) (hs : s.size ≤ 1000000000000000) :
    Calls Tryz.prog 183 #[.string s] w fun e w' => e = .returned (.int .i64 (sigE s)) ∧ Below w.heap.size w w' := by
  have HN := fun W => Lib.hid (Method_any s W (by omega))
  have HE := Lib.hid (show sigE s = (res (methL (L s))).2.2.2 from rfl)
  obtain ⟨⟨xs, ⟨d, nm⟩, vo, er⟩, hx⟩ : ∃ x, res (methL (L s)) = x := ⟨_, rfl⟩
  rw [hx] at HN HE
  clear hx
  unfold sgV at HN
  simp only at HN HE
  have HE' := HE.out
  go_enter Tryz.func183, Tryz.ntmps183
  go_wp2_with fail
  refine (HN _).out.mono ?_
  rintro e w1 ⟨v, rfl, own, hb⟩
  obtain ⟨a, c, rfl⟩ := own_form own
  generalize xs.length = n at *
  have HB := Lib.hid (hb.alloc hb.size (.cells #[.slice a n c, .int .i64 d, .string (mkB nm), .bool vo] 209))
  clear hb own
  go_wp2
  go_ret
  exact ⟨ret_i HE.out.symm, HB.out⟩
set_option maxRecDepth 1000000 in
set_option maxHeartbeats 800000 in
theorem runesErr_any (s : ByteArray) (w : World) (hs : s.size ≤ 1000000000000000) :
    Calls Tryz.prog 189 #[.string s] w fun e w' => e = .returned (.int .i64 (runesE s)) ∧ Below w.heap.size w w' := by
  have HN := fun W => Lib.hid (Encode_any s W (by omega))
  have HL := fun W => Lib.hid (Len_any s W (by unfold maxLen; omega))
  have HE := Lib.hid (show runesE s = if encE (L s) = 0 then (if 2000 < (runes (L s)).length then 2 else 0) else encE (L s) from rfl)
  have h3 : encE (L s) = 0 ∨ encE (L s) = 2 ∨ encE (L s) = 4 := by
    unfold encE
    split
    · split
      · exact .inl rfl
      · exact .inr (.inl rfl)
    · exact .inr (.inr rfl)
  obtain ⟨A, hA⟩ : ∃ A, strV (encA (L s)) = .string A := ⟨_, rfl⟩
  rw [hA] at HN
  generalize (runes (L s)).length = n at *
  generalize encE (L s) = x at *
  clear hA
  rcases h3 with rfl | rfl | rfl
  · by_cases hn : 2000 < n
    all_goals
      have hn' : (2000 < (n : Int)) ∨ (n : Int) ≤ 2000 := by omega
      go_enter Tryz.func189, Tryz.ntmps189
      go_wp2_with fail
      refine (HN _).out.mono ?_
      rintro e w1 ⟨rfl, hb⟩
      go_wp2_with fail
      refine (HL _).out.mono ?_
      rintro e w2 ⟨rfl, pos, rfl⟩
      have HB := Lib.hid (hb.alloc hb.size (.stringIter s pos))
      clear hb
      go_wp2
      go_ret
      exact ⟨ret_i (by rw [HE.out]; simp [hn]), HB.out⟩
  all_goals
    go_enter Tryz.func189, Tryz.ntmps189
    go_wp2_with fail
    refine (HN _).out.mono ?_
    rintro e w1 ⟨rfl, hb⟩
    go_wp2
    go_ret
    exact ⟨ret_i HE.out.symm, hb⟩
theorem nameE_cases (s : ByteArray) : nameE s = 0 ∨ nameE s = 8 := by
  unfold nameE
  split
  · exact .inl rfl
  · exact .inr rfl
theorem FileAt.max {B : Nat} {w : World} {v : Value} {f : Fl} (h : FileAt B w v f) : f.pool.length ≤ 9223372036854775807 ∧ f.ifs.length ≤ 9223372036854775807 ∧ f.fds.length ≤ 9223372036854775807 ∧ f.mts.length ≤ 9223372036854775807 := by
  obtain ⟨Ap, cp, Ai, ci, Af, cf, Am, cm, rfl, h1, h2, ⟨_, _, _, h3⟩, ⟨_, _, _, h4⟩⟩ := h
  obtain ⟨_, _, _, _, m1, _⟩ := h1
  obtain ⟨_, _, _, _, m2, _⟩ := h2
  obtain ⟨_, _, _, _, m3, _⟩ := h3
  obtain ⟨_, _, _, _, m4, _⟩ := h4
  unfold maxLen at m1 m2 m3 m4
  omega
/-- The functions that answer a descriptor's error. -/
def Tells (g : FuncId) (E : ByteArray → Int) : Prop := (g = 182 ∧ E = typeE) ∨ (g = 183 ∧ E = sigE)
theorem Tells.any {g : FuncId} {E : ByteArray → Int} (h : Tells g E) (s : ByteArray) (W : World) (hs : s.size ≤ 1000000000000000) : Calls Tryz.prog g #[.string s] W fun e w' => e = .returned (.int .i64 (E s)) ∧ Below W.heap.size W w' := by
  rcases h with ⟨rfl, rfl⟩ | ⟨rfl, rfl⟩
  · exact typeErr_any s W hs
  · exact sigErr_any s W hs
set_option maxRecDepth 1000000 in
set_option maxHeartbeats 800000 in
theorem pairErr_any {B : Nat} (f : Fl) (v : Value) (w : World) (hf : FileAt B w v f) (hB : B ≤ w.heap.size) (ht : Texts f.pool) (i k : Int) (g : FuncId) (E : ByteArray → Int) (hg : Tells g E) :
    Calls Tryz.prog 191 #[v, .int .i64 i, .int .i64 k, .func (.func g) #[] #[]] w fun e w' => e = .returned (.int .i64 (pairE f.pool i k E)) ∧ Below w.heap.size w w' := by
  have HT := Lib.hid (fun V W hW hWB j => textOf_any (B := B) f V W hW hWB j)
  have HN := fun W => Lib.hid (nameErr_any (textP f.pool i) W)
  have HG := fun W => Lib.hid (hg.any (textP f.pool k) W (textP_le ht k))
  have HE := Lib.hid (show pairE f.pool i k E = if nameE (textP f.pool i) = 0 then E (textP f.pool k) else nameE (textP f.pool i) from rfl)
  have h8 := nameE_cases (textP f.pool i)
  obtain ⟨Ap, cp, Ai, ci, Af, cf, Am, cm, rfl, hi⟩ := id hf
  have HBE := Lib.hid ((Below.refl w.heap.size w).alloc (Nat.le_refl _) (.cells #[.slice Ap f.pool.length cp, .int .i64 f.fl, .int .i64 f.this, .int .i64 f.super, .slice Ai f.ifs.length ci, .slice Af f.fds.length cf, .slice Am f.mts.length cm] 94))
  have HFL := Lib.hid (hf.alloc hB (.cells #[.slice Ap f.pool.length cp, .int .i64 f.fl, .int .i64 f.this, .int .i64 f.super, .slice Ai f.ifs.length ci, .slice Af f.fds.length cf, .slice Am f.mts.length cm] 94))
  have HFL0 := Lib.hid hf
  clear hi hf
  rcases hg with ⟨rfl, rfl⟩ | ⟨rfl, rfl⟩
  all_goals (rcases h8 with h8 | h8)
  all_goals
    rw [h8] at HN HE
    clear h8
    go_enter Tryz.func191, Tryz.ntmps191
    go_wp2_with fail
    refine (HT.out _ _ HFL.out (by simp; omega) i).mono ?_
    rintro e w1 ⟨rfl, hb⟩
    have HB1 := Lib.hid (Below.link HBE.out hb)
    have FL1 := Lib.hid (HFL0.out.link hB hb)
    have c0 := filecells hb 0
    have c1 := filecells hb 1
    have c2 := filecells hb 2
    have c3 := filecells hb 3
    have c4 := filecells hb 4
    have c5 := filecells hb 5
    have c6 := filecells hb 6
    simp at c0 c1 c2 c3 c4 c5 c6
    have hz := filefree hb
    clear hb
    go_wp2_with fail
    refine (HN _).out.mono ?_
    rintro e w2 ⟨rfl, hb⟩
    have HB2 := Lib.hid (Below.link HB1.out hb)
    have FL2 := Lib.hid (FL1.out.below hb (by omega))
    have d0 := keepc hb (B := w.heap.size + 1) (by omega) (by omega) c0
    have d1 := keepc hb (B := w.heap.size + 1) (by omega) (by omega) c1
    have d2 := keepc hb (B := w.heap.size + 1) (by omega) (by omega) c2
    have d3 := keepc hb (B := w.heap.size + 1) (by omega) (by omega) c3
    have d4 := keepc hb (B := w.heap.size + 1) (by omega) (by omega) c4
    have d5 := keepc hb (B := w.heap.size + 1) (by omega) (by omega) c5
    have d6 := keepc hb (B := w.heap.size + 1) (by omega) (by omega) c6
    have hz2 : w.heap.size < w2.heap.size := Nat.lt_of_lt_of_le hz hb.size
    clear hb c0 c1 c2 c3 c4 c5 c6
  · go_wp2_with fail
    refine (HT.out _ _ FL2.out (by omega) k).mono ?_
    rintro e w3 ⟨rfl, hb⟩
    have HB3 := Lib.hid (Below.link HB2.out hb)
    clear hb
    go_wp2_with fail
    refine (HG _).out.mono ?_
    rintro e w4 ⟨rfl, hb⟩
    have HB4 := Lib.hid (Below.link HB3.out hb)
    clear hb
    go_wp2
    go_ret
    exact ⟨ret_i (by rw [HE.out]; simp), HB4.out⟩
  · go_wp2
    go_ret
    exact ⟨ret_i (by rw [HE.out]; simp), HB2.out⟩
  · go_wp2_with fail
    refine (HT.out _ _ FL2.out (by omega) k).mono ?_
    rintro e w3 ⟨rfl, hb⟩
    have HB3 := Lib.hid (Below.link HB2.out hb)
    clear hb
    go_wp2_with fail
    refine (HG _).out.mono ?_
    rintro e w4 ⟨rfl, hb⟩
    have HB4 := Lib.hid (Below.link HB3.out hb)
    clear hb
    go_wp2
    go_ret
    exact ⟨ret_i (by rw [HE.out]; simp), HB4.out⟩
  · go_wp2
    go_ret
    exact ⟨ret_i (by rw [HE.out]; simp), HB2.out⟩
def noneB (p : List Cn) (i : Int) : Bool := decide (i = 0) || tagged p i 4
set_option maxRecDepth 1000000 in
set_option maxHeartbeats 800000 in
theorem noneOrClass_any {B : Nat} (f : Fl) (v : Value) (w : World) (hf : FileAt B w v f) (hB : B ≤ w.heap.size) (i : Int) :
    Calls Tryz.prog 177 #[v, .int .i64 i] w fun e w' => e = .returned (.bool (noneB f.pool i)) ∧ Below w.heap.size w w' := by
  have HH := Lib.hid (fun b V W hW hWB h => has_at (B := B) b f V W hW hWB i 4 h)
  obtain ⟨Ap, cp, Ai, ci, Af, cf, Am, cm, rfl, hi⟩ := id hf
  have HBE := Lib.hid ((Below.refl w.heap.size w).alloc (Nat.le_refl _) (.cells #[.slice Ap f.pool.length cp, .int .i64 f.fl, .int .i64 f.this, .int .i64 f.super, .slice Ai f.ifs.length ci, .slice Af f.fds.length cf, .slice Am f.mts.length cm] 94))
  have HFL := Lib.hid (hf.alloc hB (.cells #[.slice Ap f.pool.length cp, .int .i64 f.fl, .int .i64 f.this, .int .i64 f.super, .slice Ai f.ifs.length ci, .slice Af f.fds.length cf, .slice Am f.mts.length cm] 94))
  have HNB := Lib.hid (show noneB f.pool i = (decide (i = 0) || tagged f.pool i 4) from rfl)
  clear hi hf
  by_cases h0 : i = 0
  · subst h0
    go_enter Tryz.func177, Tryz.ntmps177
    go_wp2
    go_ret
    exact ⟨ret_b (by rw [HNB.out]; rfl), HBE.out⟩
  · cases h : tagged f.pool i 4
    all_goals
      have H := Lib.hid h
      have hi0 : (i == 0) = false := by simpa using h0
      clear h
      go_enter Tryz.func177, Tryz.ntmps177
      go_wp2_with fail
      refine (HH.out _ _ _ HFL.out (by simp; omega) H.out).mono ?_
      rintro e w1 ⟨rfl, hb⟩
      have HB1 := Lib.hid (Below.link HBE.out hb)
      clear hb
      go_wp2
      go_ret
      exact ⟨ret_b (by rw [HNB.out, H.out]; simp [h0]), HB1.out⟩
theorem none_at {B : Nat} (b : Bool) (f : Fl) (v : Value) (w : World) (hf : FileAt B w v f) (hB : B ≤ w.heap.size) (i : Int) (h : noneB f.pool i = b) :
    Calls Tryz.prog 177 #[v, .int .i64 i] w fun e w' => e = .returned (.bool b) ∧ Below w.heap.size w w' := by
  have := noneOrClass_any f v w hf hB i
  rwa [h] at this
/-- Whether a link leads to a constant with that tag; with the tag 0, whether there is none. -/
def linkB (p : List Cn) (i t : Int) : Bool := if t = 0 then decide (i = 0) else tagged p i t
set_option maxRecDepth 1000000 in
set_option maxHeartbeats 800000 in
theorem rightLink_any {B : Nat} (f : Fl) (v : Value) (w : World) (hf : FileAt B w v f) (hB : B ≤ w.heap.size) (i t : Int) :
    Calls Tryz.prog 175 #[v, .int .i64 i, .int .i64 t] w fun e w' => e = .returned (.bool (linkB f.pool i t)) ∧ Below w.heap.size w w' := by
  have HH := Lib.hid (fun V W hW hWB => has_any (B := B) f V W hW hWB i t)
  obtain ⟨Ap, cp, Ai, ci, Af, cf, Am, cm, rfl, hi⟩ := id hf
  have HBE := Lib.hid ((Below.refl w.heap.size w).alloc (Nat.le_refl _) (.cells #[.slice Ap f.pool.length cp, .int .i64 f.fl, .int .i64 f.this, .int .i64 f.super, .slice Ai f.ifs.length ci, .slice Af f.fds.length cf, .slice Am f.mts.length cm] 94))
  have HFL := Lib.hid (hf.alloc hB (.cells #[.slice Ap f.pool.length cp, .int .i64 f.fl, .int .i64 f.this, .int .i64 f.super, .slice Ai f.ifs.length ci, .slice Af f.fds.length cf, .slice Am f.mts.length cm] 94))
  have HNB := Lib.hid (show linkB f.pool i t = if t = 0 then decide (i = 0) else tagged f.pool i t from rfl)
  clear hi hf
  generalize linkB f.pool i t = R at *
  by_cases h0 : t = 0
  · subst h0
    go_enter Tryz.func175, Tryz.ntmps175
    go_wp2
    go_ret
    exact ⟨ret_b (by rw [HNB.out]; simp; rfl), HBE.out⟩
  · have hi0 : (t == 0) = false := by simpa using h0
    generalize tagged f.pool i t = T at *
    go_enter Tryz.func175, Tryz.ntmps175
    go_wp2_with fail
    refine (HH.out _ _ HFL.out (by simp; omega)).mono ?_
    rintro e w1 ⟨rfl, hb⟩
    have HB1 := Lib.hid (Below.link HBE.out hb)
    clear hb
    go_wp2
    go_ret
    exact ⟨ret_b (by rw [HNB.out, if_neg h0]), HB1.out⟩
theorem rightLink_at {B : Nat} (b : Bool) (f : Fl) (v : Value) (w : World) (hf : FileAt B w v f) (hB : B ≤ w.heap.size) (i t : Int) (h : linkB f.pool i t = b) :
    Calls Tryz.prog 175 #[v, .int .i64 i, .int .i64 t] w fun e w' => e = .returned (.bool b) ∧ Below w.heap.size w w' := by
  have := rightLink_any f v w hf hB i t
  rwa [h] at this
end Go.Proofs.YtmaknddlgppinaaGreatDoor
/-! D9 -/
namespace Go.Proofs.YtmaknddlgppinaaGreatDoor
open Go.RowKit

theorem own_below {w w' : World} {base : Nat} {e : TypeId} {size : Nat} {v : Value} {n : Nat} {xs : List Value} (own : w.ownsRow base e size v n xs) (h : Below w.heap.size w w') : w'.ownsRow base e size v n xs :=
  own.kept (row := none) ⟨h.os, h.tape, h.output, h.size, fun k hk _ => h.block k hk⟩ (by
    cases hv : v.ownBlock with
    | none => exact .inl rfl
    | some g => exact .inr (by simp))
end Go.Proofs.YtmaknddlgppinaaGreatDoor
/-! A1 -/
namespace Go.Proofs.YtmaknddlgppinaaGreatDoor
open Go.RowKit

/-- The slice value v is the call's own row of the bytes l. -/
def OwnB (w : World) (base : Nat) (v : Value) (l : List UInt8) : Prop := w.ownsRow base 5 1 v l.length (bcells l)
/-- The byte of a number at that place. -/
def byteAt (n : Int) (i : Nat) : UInt8 := UInt8.ofNat (n / 256 ^ i % 256).toNat
def beN : Nat → Int → List UInt8
  | 0, _ => []
  | k + 1, n => byteAt n k :: beN k n
theorem beN_length : ∀ (k : Nat) (n : Int), (beN k n).length = k
  | 0, _ => rfl
  | k + 1, n => by rw [beN, List.length_cons, beN_length k n]
theorem byteAt_val (n : Int) (i : Nat) (q : Int) (h : n / 256 ^ i % 256 = q) : bcells [byteAt n i] = [.int .u8 q] := by
  have h0 : 0 ≤ n / 256 ^ i % 256 := Int.emod_nonneg _ (by decide)
  have h1 : n / 256 ^ i % 256 < 256 := Int.emod_lt_of_pos _ (by decide)
  unfold bcells byteAt
  simp only [List.map_cons, List.map_nil, List.cons.injEq, and_true, Value.int.injEq, true_and]
  rw [UInt8.toNat_ofNat']
  omega
theorem OwnB.more {w : World} {base : Nat} {v : Value} {l m : List UInt8} {c : Value} {N : Nat} (h : w.ownsRow base 5 1 v N (bcells l ++ [c])) (hm : bcells m = [c]) (hN : N = l.length + 1) : OwnB w base v (l ++ m) := by
  unfold OwnB
  have : m.length = 1 := by
    have := congrArg List.length hm
    simpa [bcells] using this
  rw [List.length_append, this, bcells_append, hm, ← hN]
  exact h
theorem OwnB.app {w : World} {base : Nat} {v : Value} {l : List UInt8} (h : OwnB w base v l) : w.ownsRow base 5 1 v l.length (bcells l) := h
theorem OwnB.nil (w : World) (base : Nat) : OwnB w base (.slice none 0 0) [] := World.ownsRow_nil _ _ _ _
theorem OwnB.below {w w' : World} {base : Nat} {v : Value} {l : List UInt8} (h : OwnB w base v l) (hb : Below w.heap.size w w') : OwnB w' base v l := own_below h hb
theorem OwnB.alloc {w : World} {base : Nat} {v : Value} {l : List UInt8} (h : OwnB w base v l) (o : Obj) : OwnB (w.alloc o) base v l := World.ownsRow.alloc h o
theorem OwnB.drew {w : World} {base : Nat} {v : Value} {l : List UInt8} (h : OwnB w base v l) : OwnB w.drew base v l := h
theorem OwnB.slice {w : World} {base : Nat} {v : Value} {l : List UInt8} (h : OwnB w base v l) : ∃ a c, v = .slice a l.length c := own_form h
/-- Below block 'base' all is as it was; so is each block that holds no bytes, wherever it lies. -/
structure Kept (base : Nat) (w w' : World) : Prop where
  below : Below base w w'
  other : ∀ (k : Nat) (cs : Array Value) (t : TypeId) (m : Nat × Nat), t ≠ 5 → w.heap[k]? = some (.cells cs t m) → w'.heap[k]? = some (.cells cs t m)
theorem Kept.refl (base : Nat) (w : World) : Kept base w w := ⟨Below.refl _ _, fun _ _ _ _ _ h => h⟩
theorem Kept.trans {base : Nat} {a b c : World} (h : Kept base a b) (k : Kept base b c) : Kept base a c := ⟨h.below.trans k.below, fun i cs t m ht e => k.other i cs t m ht (h.other i cs t m ht e)⟩
theorem Kept.of_below {base : Nat} {w w' : World} (h : Below w.heap.size w w') (hb : base ≤ w.heap.size) : Kept base w w' := ⟨h.mono hb, fun k cs t m _ e => (h.block k (lt_of_block e)).trans e⟩
theorem Kept.alloc {base : Nat} {a w : World} (h : Kept base a w) (hB : base ≤ w.heap.size) (o : Obj) : Kept base a (w.alloc o) := h.trans (Kept.of_below ((Below.refl _ _).alloc (Nat.le_refl _) o) hB)
theorem Kept.drew {base : Nat} {a w : World} (h : Kept base a w) : Kept base a w.drew := ⟨h.below.drew, h.other⟩
theorem Kept.size {base : Nat} {a w : World} (h : Kept base a w) : a.heap.size ≤ w.heap.size := h.below.size
theorem Kept.link {base : Nat} {a w w' : World} (h : Kept base a w) (hb : base ≤ w.heap.size) (k : Below w.heap.size w w') : Kept base a w' := h.trans (Kept.of_below k hb)
theorem OwnB.grown0 {w w' : World} {base : Nat} {v : Value} {l : List UInt8} (h : OwnB w base v l) (hb : base ≤ w.heap.size) (hg : w.grownBy w' v.ownBlock) : Kept base w w' := by
  refine ⟨(Below.refl base w).grown hg hb (fun k hk => (World.ownsRow.lt h k hk).1), fun k cs t m ht e => (hg.block k (lt_of_block e) ?_).trans e⟩
  intro e1
  rcases h.2 with ⟨rfl, _⟩ | ⟨g, cap, cur, rfl, _, hgg, _⟩
  · simp [Value.ownBlock] at e1
  · simp [Value.ownBlock] at e1
    subst e1
    rw [hgg] at e
    simp only [Option.some.injEq, Obj.cells.injEq] at e
    exact ht e.2.1.symm
theorem OwnB.grown {w w' : World} {base : Nat} {v : Value} {l : List UInt8} {o : Obj} (h : OwnB w base v l) (hb : base ≤ w.heap.size) (hg : (w.alloc o).grownBy w' v.ownBlock) : Kept base w w' :=
  ((Kept.refl base w).alloc hb o).trans (OwnB.grown0 (h.alloc o) (by simp; omega) hg)
set_option maxRecDepth 1000000 in
set_option maxHeartbeats 6400000 in
theorem appendNumber_1 (n : Int) (v : Value) (l : List UInt8) (base : Nat) (w : World) (hown : OwnB w base v l) (hl : l.length ≤ 1000000000) (hb : base ≤ w.heap.size) :
    Calls Tryz.prog 160 #[v, .int .i64 1, .int .i64 n] w fun e w' => ∃ v', e = .returned v' ∧ OwnB w' base v' (l ++ beN 1 n) ∧ Kept base w w' := by
  obtain ⟨i0, hi, hz0, hz1, hz2⟩ := info_parts Tryz.info5
  have HBE := Lib.hid (Kept.refl base w)
  have HO := Lib.hid hown
  clear hown
  go_enter Tryz.func160, Tryz.ntmps160
  go_wp2
  refine wp_loop_rounds 2 ?_
  rw [rounds_succ]
  go_wp2_with (at_builtin; refine wpList_append_own _ rfl (.tmp 14) (.tmp 20) 166 rfl base 5 i0 (.int .u8 0) 1 1 Tryz.underlying166 hi hz0 hz1 hz2 rfl (by decide) _ _ _ rfl (HO.out.app.alloc _) ⟨w.heap.size, 0, none⟩ 1 1 [.int .u8 (n % 256)] rfl rfl ?a0 ?b0 ?c0 ?d0 ?e0 ?_)
  case a0 => exact new_cells w [.int .u8 (n % 256)] 5
  case b0 => exact int_cells .u8 [(n % 256)]
  case c0 => unfold maxLen; first | omega | (simp only [List.length_append, List.length_cons, List.length_nil]; omega)
  case d0 => first | omega | (simp only [List.length_append, List.length_cons, List.length_nil]; omega)
  case e0 => simp; omega
  intro v1 w1 hown' hgrow _
  have HO1 := Lib.hid (OwnB.more hown' (byteAt_val n 0 (n % 256) (by simp)) (by simp))
  have HB1 := Lib.hid (HBE.out.trans (HO.out.grown (by omega) hgrow))
  clear hown' hgrow
  go_wp2
  rw [rounds_succ]
  go_wp2
  go_ret
  refine ⟨_, rfl, ?_, HB1.out⟩
  have := HO1.out
  skip
  exact this
set_option maxRecDepth 1000000 in
set_option maxHeartbeats 6400000 in
theorem appendNumber_2 (n : Int) (v : Value) (l : List UInt8) (base : Nat) (w : World) (hown : OwnB w base v l) (hl : l.length ≤ 1000000000) (hb : base ≤ w.heap.size) :
    Calls Tryz.prog 160 #[v, .int .i64 2, .int .i64 n] w fun e w' => ∃ v', e = .returned v' ∧ OwnB w' base v' (l ++ beN 2 n) ∧ Kept base w w' := by
  obtain ⟨i0, hi, hz0, hz1, hz2⟩ := info_parts Tryz.info5
  have HBE := Lib.hid (Kept.refl base w)
  have HO := Lib.hid hown
  clear hown
  go_enter Tryz.func160, Tryz.ntmps160
  go_wp2
  refine wp_loop_rounds 3 ?_
  rw [rounds_succ]
  go_wp2_with (at_builtin; refine wpList_append_own _ rfl (.tmp 14) (.tmp 20) 166 rfl base 5 i0 (.int .u8 0) 1 1 Tryz.underlying166 hi hz0 hz1 hz2 rfl (by decide) _ _ _ rfl (HO.out.app.alloc _) ⟨w.heap.size, 0, none⟩ 1 1 [.int .u8 (n / 256 % 256)] rfl rfl ?a1 ?b1 ?c1 ?d1 ?e1 ?_)
  case a1 => exact new_cells w [.int .u8 (n / 256 % 256)] 5
  case b1 => exact int_cells .u8 [(n / 256 % 256)]
  case c1 => unfold maxLen; first | omega | (simp only [List.length_append, List.length_cons, List.length_nil]; omega)
  case d1 => first | omega | (simp only [List.length_append, List.length_cons, List.length_nil]; omega)
  case e1 => simp; omega
  intro v1 w1 hown' hgrow _
  have HO1 := Lib.hid (OwnB.more hown' (byteAt_val n 1 (n / 256 % 256) (by simp)) (by simp))
  have HB1 := Lib.hid (HBE.out.trans (HO.out.grown (by omega) hgrow))
  clear hown' hgrow
  go_wp2
  rw [rounds_succ]
  go_wp2_with (at_builtin; refine wpList_append_own _ rfl (.tmp 14) (.tmp 20) 166 rfl base 5 i0 (.int .u8 0) 1 1 Tryz.underlying166 hi hz0 hz1 hz2 rfl (by decide) _ _ _ rfl (HO1.out.app.alloc _) ⟨w1.heap.size, 0, none⟩ 1 1 [.int .u8 (n % 256)] rfl rfl ?a0 ?b0 ?c0 ?d0 ?e0 ?_)
  case a0 => exact new_cells w1 [.int .u8 (n % 256)] 5
  case b0 => exact int_cells .u8 [(n % 256)]
  case c0 => unfold maxLen; first | omega | (simp only [List.length_append, List.length_cons, List.length_nil]; omega)
  case d0 => first | omega | (simp only [List.length_append, List.length_cons, List.length_nil]; omega)
  case e0 => simp; have := HB1.out.size; omega
  intro v2 w2 hown' hgrow _
  have HO2 := Lib.hid (OwnB.more hown' (byteAt_val n 0 (n % 256) (by simp)) (by simp))
  have HB2 := Lib.hid (HB1.out.trans (HO1.out.grown (by have := HB1.out.size; omega) hgrow))
  clear hown' hgrow
  go_wp2
  rw [rounds_succ]
  go_wp2
  go_ret
  refine ⟨_, rfl, ?_, HB2.out⟩
  have := HO2.out
  simp only [List.append_assoc, List.cons_append, List.nil_append] at this
  exact this
set_option maxRecDepth 1000000 in
set_option maxHeartbeats 6400000 in
theorem appendNumber_8 (n : Int) (v : Value) (l : List UInt8) (base : Nat) (w : World) (hown : OwnB w base v l) (hl : l.length ≤ 1000000000) (hb : base ≤ w.heap.size) :
    Calls Tryz.prog 160 #[v, .int .i64 8, .int .i64 n] w fun e w' => ∃ v', e = .returned v' ∧ OwnB w' base v' (l ++ beN 8 n) ∧ Kept base w w' := by
  obtain ⟨i0, hi, hz0, hz1, hz2⟩ := info_parts Tryz.info5
  have HBE := Lib.hid (Kept.refl base w)
  have HO := Lib.hid hown
  clear hown
  go_enter Tryz.func160, Tryz.ntmps160
  go_wp2
  refine wp_loop_rounds 9 ?_
  rw [rounds_succ]
  go_wp2_with (at_builtin; refine wpList_append_own _ rfl (.tmp 14) (.tmp 20) 166 rfl base 5 i0 (.int .u8 0) 1 1 Tryz.underlying166 hi hz0 hz1 hz2 rfl (by decide) _ _ _ rfl (HO.out.app.alloc _) ⟨w.heap.size, 0, none⟩ 1 1 [.int .u8 (n / 72057594037927936 % 256)] rfl rfl ?a7 ?b7 ?c7 ?d7 ?e7 ?_)
  case a7 => exact new_cells w [.int .u8 (n / 72057594037927936 % 256)] 5
  case b7 => exact int_cells .u8 [(n / 72057594037927936 % 256)]
  case c7 => unfold maxLen; first | omega | (simp only [List.length_append, List.length_cons, List.length_nil]; omega)
  case d7 => first | omega | (simp only [List.length_append, List.length_cons, List.length_nil]; omega)
  case e7 => simp; omega
  intro v1 w1 hown' hgrow _
  have HO1 := Lib.hid (OwnB.more hown' (byteAt_val n 7 (n / 72057594037927936 % 256) (by simp)) (by simp))
  have HB1 := Lib.hid (HBE.out.trans (HO.out.grown (by omega) hgrow))
  clear hown' hgrow
  go_wp2
  rw [rounds_succ]
  go_wp2_with (at_builtin; refine wpList_append_own _ rfl (.tmp 14) (.tmp 20) 166 rfl base 5 i0 (.int .u8 0) 1 1 Tryz.underlying166 hi hz0 hz1 hz2 rfl (by decide) _ _ _ rfl (HO1.out.app.alloc _) ⟨w1.heap.size, 0, none⟩ 1 1 [.int .u8 (n / 281474976710656 % 256)] rfl rfl ?a6 ?b6 ?c6 ?d6 ?e6 ?_)
  case a6 => exact new_cells w1 [.int .u8 (n / 281474976710656 % 256)] 5
  case b6 => exact int_cells .u8 [(n / 281474976710656 % 256)]
  case c6 => unfold maxLen; first | omega | (simp only [List.length_append, List.length_cons, List.length_nil]; omega)
  case d6 => first | omega | (simp only [List.length_append, List.length_cons, List.length_nil]; omega)
  case e6 => simp; have := HB1.out.size; omega
  intro v2 w2 hown' hgrow _
  have HO2 := Lib.hid (OwnB.more hown' (byteAt_val n 6 (n / 281474976710656 % 256) (by simp)) (by simp))
  have HB2 := Lib.hid (HB1.out.trans (HO1.out.grown (by have := HB1.out.size; omega) hgrow))
  clear hown' hgrow
  go_wp2
  rw [rounds_succ]
  go_wp2_with (at_builtin; refine wpList_append_own _ rfl (.tmp 14) (.tmp 20) 166 rfl base 5 i0 (.int .u8 0) 1 1 Tryz.underlying166 hi hz0 hz1 hz2 rfl (by decide) _ _ _ rfl (HO2.out.app.alloc _) ⟨w2.heap.size, 0, none⟩ 1 1 [.int .u8 (n / 1099511627776 % 256)] rfl rfl ?a5 ?b5 ?c5 ?d5 ?e5 ?_)
  case a5 => exact new_cells w2 [.int .u8 (n / 1099511627776 % 256)] 5
  case b5 => exact int_cells .u8 [(n / 1099511627776 % 256)]
  case c5 => unfold maxLen; first | omega | (simp only [List.length_append, List.length_cons, List.length_nil]; omega)
  case d5 => first | omega | (simp only [List.length_append, List.length_cons, List.length_nil]; omega)
  case e5 => simp; have := HB2.out.size; omega
  intro v3 w3 hown' hgrow _
  have HO3 := Lib.hid (OwnB.more hown' (byteAt_val n 5 (n / 1099511627776 % 256) (by simp)) (by simp))
  have HB3 := Lib.hid (HB2.out.trans (HO2.out.grown (by have := HB2.out.size; omega) hgrow))
  clear hown' hgrow
  go_wp2
  rw [rounds_succ]
  go_wp2_with (at_builtin; refine wpList_append_own _ rfl (.tmp 14) (.tmp 20) 166 rfl base 5 i0 (.int .u8 0) 1 1 Tryz.underlying166 hi hz0 hz1 hz2 rfl (by decide) _ _ _ rfl (HO3.out.app.alloc _) ⟨w3.heap.size, 0, none⟩ 1 1 [.int .u8 (n / 4294967296 % 256)] rfl rfl ?a4 ?b4 ?c4 ?d4 ?e4 ?_)
  case a4 => exact new_cells w3 [.int .u8 (n / 4294967296 % 256)] 5
  case b4 => exact int_cells .u8 [(n / 4294967296 % 256)]
  case c4 => unfold maxLen; first | omega | (simp only [List.length_append, List.length_cons, List.length_nil]; omega)
  case d4 => first | omega | (simp only [List.length_append, List.length_cons, List.length_nil]; omega)
  case e4 => simp; have := HB3.out.size; omega
  intro v4 w4 hown' hgrow _
  have HO4 := Lib.hid (OwnB.more hown' (byteAt_val n 4 (n / 4294967296 % 256) (by simp)) (by simp))
  have HB4 := Lib.hid (HB3.out.trans (HO3.out.grown (by have := HB3.out.size; omega) hgrow))
  clear hown' hgrow
  go_wp2
  rw [rounds_succ]
  go_wp2_with (at_builtin; refine wpList_append_own _ rfl (.tmp 14) (.tmp 20) 166 rfl base 5 i0 (.int .u8 0) 1 1 Tryz.underlying166 hi hz0 hz1 hz2 rfl (by decide) _ _ _ rfl (HO4.out.app.alloc _) ⟨w4.heap.size, 0, none⟩ 1 1 [.int .u8 (n / 16777216 % 256)] rfl rfl ?a3 ?b3 ?c3 ?d3 ?e3 ?_)
  case a3 => exact new_cells w4 [.int .u8 (n / 16777216 % 256)] 5
  case b3 => exact int_cells .u8 [(n / 16777216 % 256)]
  case c3 => unfold maxLen; first | omega | (simp only [List.length_append, List.length_cons, List.length_nil]; omega)
  case d3 => first | omega | (simp only [List.length_append, List.length_cons, List.length_nil]; omega)
  case e3 => simp; have := HB4.out.size; omega
  intro v5 w5 hown' hgrow _
  have HO5 := Lib.hid (OwnB.more hown' (byteAt_val n 3 (n / 16777216 % 256) (by simp)) (by simp))
  have HB5 := Lib.hid (HB4.out.trans (HO4.out.grown (by have := HB4.out.size; omega) hgrow))
  clear hown' hgrow
  go_wp2
  rw [rounds_succ]
  go_wp2_with (at_builtin; refine wpList_append_own _ rfl (.tmp 14) (.tmp 20) 166 rfl base 5 i0 (.int .u8 0) 1 1 Tryz.underlying166 hi hz0 hz1 hz2 rfl (by decide) _ _ _ rfl (HO5.out.app.alloc _) ⟨w5.heap.size, 0, none⟩ 1 1 [.int .u8 (n / 65536 % 256)] rfl rfl ?a2 ?b2 ?c2 ?d2 ?e2 ?_)
  case a2 => exact new_cells w5 [.int .u8 (n / 65536 % 256)] 5
  case b2 => exact int_cells .u8 [(n / 65536 % 256)]
  case c2 => unfold maxLen; first | omega | (simp only [List.length_append, List.length_cons, List.length_nil]; omega)
  case d2 => first | omega | (simp only [List.length_append, List.length_cons, List.length_nil]; omega)
  case e2 => simp; have := HB5.out.size; omega
  intro v6 w6 hown' hgrow _
  have HO6 := Lib.hid (OwnB.more hown' (byteAt_val n 2 (n / 65536 % 256) (by simp)) (by simp))
  have HB6 := Lib.hid (HB5.out.trans (HO5.out.grown (by have := HB5.out.size; omega) hgrow))
  clear hown' hgrow
  go_wp2
  rw [rounds_succ]
  go_wp2_with (at_builtin; refine wpList_append_own _ rfl (.tmp 14) (.tmp 20) 166 rfl base 5 i0 (.int .u8 0) 1 1 Tryz.underlying166 hi hz0 hz1 hz2 rfl (by decide) _ _ _ rfl (HO6.out.app.alloc _) ⟨w6.heap.size, 0, none⟩ 1 1 [.int .u8 (n / 256 % 256)] rfl rfl ?a1 ?b1 ?c1 ?d1 ?e1 ?_)
  case a1 => exact new_cells w6 [.int .u8 (n / 256 % 256)] 5
  case b1 => exact int_cells .u8 [(n / 256 % 256)]
  case c1 => unfold maxLen; first | omega | (simp only [List.length_append, List.length_cons, List.length_nil]; omega)
  case d1 => first | omega | (simp only [List.length_append, List.length_cons, List.length_nil]; omega)
  case e1 => simp; have := HB6.out.size; omega
  intro v7 w7 hown' hgrow _
  have HO7 := Lib.hid (OwnB.more hown' (byteAt_val n 1 (n / 256 % 256) (by simp)) (by simp))
  have HB7 := Lib.hid (HB6.out.trans (HO6.out.grown (by have := HB6.out.size; omega) hgrow))
  clear hown' hgrow
  go_wp2
  rw [rounds_succ]
  go_wp2_with (at_builtin; refine wpList_append_own _ rfl (.tmp 14) (.tmp 20) 166 rfl base 5 i0 (.int .u8 0) 1 1 Tryz.underlying166 hi hz0 hz1 hz2 rfl (by decide) _ _ _ rfl (HO7.out.app.alloc _) ⟨w7.heap.size, 0, none⟩ 1 1 [.int .u8 (n % 256)] rfl rfl ?a0 ?b0 ?c0 ?d0 ?e0 ?_)
  case a0 => exact new_cells w7 [.int .u8 (n % 256)] 5
  case b0 => exact int_cells .u8 [(n % 256)]
  case c0 => unfold maxLen; first | omega | (simp only [List.length_append, List.length_cons, List.length_nil]; omega)
  case d0 => first | omega | (simp only [List.length_append, List.length_cons, List.length_nil]; omega)
  case e0 => simp; have := HB7.out.size; omega
  intro v8 w8 hown' hgrow _
  have HO8 := Lib.hid (OwnB.more hown' (byteAt_val n 0 (n % 256) (by simp)) (by simp))
  have HB8 := Lib.hid (HB7.out.trans (HO7.out.grown (by have := HB7.out.size; omega) hgrow))
  clear hown' hgrow
  go_wp2
  rw [rounds_succ]
  go_wp2
  go_ret
  refine ⟨_, rfl, ?_, HB8.out⟩
  have := HO8.out
  simp only [List.append_assoc, List.cons_append, List.nil_append] at this
  exact this
end Go.Proofs.YtmaknddlgppinaaGreatDoor
/-! E2 -/
namespace Go.Proofs.YtmaknddlgppinaaGreatDoor
open Go.RowKit

def constV (c : Cn) : Value := .agg #[.int .i64 c.tag, .string c.text, .int .i64 c.n, .int .i64 c.a, .int .i64 c.b, .int .i64 c.c]
/-- A tag that there is, and no text and no number beside those of that tag. -/
def rightTagB (c : Cn) : Bool := (decide (c.text.size = 0) || decide (c.tag = 1)) && (decide (c.n = 0) || decide (c.tag = 2)) && decide (1 ≤ c.tag) && decide (c.tag ≤ 7)
set_option maxRecDepth 1000000 in
set_option maxHeartbeats 1600000 in
theorem rightTag_any (c : Cn) (w : World) :
    Calls Tryz.prog 173 #[constV c] w fun e w' => e = .returned (.bool (rightTagB c)) ∧ Below w.heap.size w w' := by
  obtain ⟨tag, text, n, a, b, d⟩ := c
  unfold constV rightTagB
  simp only
  have HBE := Lib.hid ((Below.refl w.heap.size w).alloc (Nat.le_refl _) (.cells #[.int .i64 tag, .string text, .int .i64 n, .int .i64 a, .int .i64 b, .int .i64 d] 138))
  have hx : (text.size = 0 ∧ text.toList = [] ∧ text.toList.isEmpty = true) ∨ (0 < text.size ∧ ¬ text.toList = [] ∧ text.toList.isEmpty = false) := by
    by_cases h : text.size = 0
    · exact .inl ⟨h, nil_of0 h, emp_of0 h⟩
    · exact .inr ⟨by omega, ne_ofpos (by omega), emp_ofpos (by omega)⟩
  rcases hx with ⟨hx, e1, e2⟩ | ⟨hx, e1, e2⟩
  all_goals
    obtain ⟨S, hS⟩ : ∃ S, text.size = S := ⟨_, rfl⟩
    rw [hS] at hx ⊢
    clear hS
    by_cases hn : n = 0
    all_goals
      rcases (show tag = 1 ∨ tag = 2 ∨ tag < 1 ∨ 7 < tag ∨ (3 ≤ tag ∧ tag ≤ 7) by omega) with ht | ht | ht | ht | ⟨ht, ht'⟩
      all_goals
        have f1 : (tag == 1) = decide (tag = 1) := rfl
        have f2 : (tag != 1) = !decide (tag = 1) := rfl
        have f3 : (tag == 2) = decide (tag = 2) := rfl
        have f4 : (tag != 2) = !decide (tag = 2) := rfl
        have f5 : (n != 0) = !decide (n = 0) := rfl
        first
          | subst hn
          | rw [decide_eq_false hn] at f5
        first
          | subst ht
          | (rw [decide_eq_false (by omega)] at f1 f2 f3 f4)
        go_enter Tryz.func173, Tryz.ntmps173
        go_wp2
        go_ret
        refine ⟨ret_b ?_, HBE.out⟩
        first
          | rfl
          | (simp; omega)
theorem rightTag_at (r : Bool) (c : Cn) (w : World) (h : rightTagB c = r) :
    Calls Tryz.prog 173 #[constV c] w fun e w' => e = .returned (.bool r) ∧ Below w.heap.size w w' := by
  have := rightTag_any c w
  rwa [h] at this
/-- The tags to which the links of a constant with the tag t lead; 0: no link. -/
def tag1 (t : Int) : Int := if t = 3 ∨ t = 4 ∨ t = 7 then 1 else if t = 5 ∨ t = 6 then 4 else 0
def tag2 (t : Int) : Int := if t = 5 ∨ t = 6 then 1 else 0
set_option maxRecDepth 1000000 in
set_option maxHeartbeats 1600000 in
theorem linkTags_any (t : Int) (w : World) :
    Calls Tryz.prog 174 #[.int .i64 t] w fun e w' => e = .returned (.agg #[.int .i64 (tag1 t), .int .i64 (tag2 t), .int .i64 (tag2 t)]) ∧ Below w.heap.size w w' := by
  have HBE := Lib.hid ((Below.refl w.heap.size w).alloc (Nat.le_refl _) (.cells #[.int .i64 0, .int .i64 0, .int .i64 0] 201))
  have ht : t = 3 ∨ t = 4 ∨ t = 7 ∨ t = 5 ∨ t = 6 ∨ (t ≠ 3 ∧ t ≠ 4 ∧ t ≠ 7 ∧ t ≠ 5 ∧ t ≠ 6) := by omega
  rcases ht with rfl | rfl | rfl | rfl | rfl | ⟨h3, h4, h7, h5, h6⟩
  all_goals
    try have g3 : (t == 3) = false := by simpa using h3
    try have g4 : (t == 4) = false := by simpa using h4
    try have g7 : (t == 7) = false := by simpa using h7
    try have g5 : (t == 5) = false := by simpa using h5
    try have g6 : (t == 6) = false := by simpa using h6
    go_enter Tryz.func174, Tryz.ntmps174
    go_wp2
  · refine bodyPost_ret (v := .agg #[.int .i64 1, .int .i64 0, .int .i64 0]) (by simp [results, Tryz.results174, go_sem]) rfl ⟨rfl, ?_⟩
    exact (Below.refl _ _).alloc (Nat.le_refl _) _
  · refine bodyPost_ret (v := .agg #[.int .i64 1, .int .i64 0, .int .i64 0]) (by simp [results, Tryz.results174, go_sem]) rfl ⟨rfl, ?_⟩
    exact (Below.refl _ _).alloc (Nat.le_refl _) _
  · refine bodyPost_ret (v := .agg #[.int .i64 1, .int .i64 0, .int .i64 0]) (by simp [results, Tryz.results174, go_sem]) rfl ⟨rfl, ?_⟩
    exact (Below.refl _ _).alloc (Nat.le_refl _) _
  · refine bodyPost_ret (v := .agg #[.int .i64 4, .int .i64 1, .int .i64 1]) (by simp [results, Tryz.results174, go_sem]) rfl ⟨rfl, ?_⟩
    exact (Below.refl _ _).alloc (Nat.le_refl _) _
  · refine bodyPost_ret (v := .agg #[.int .i64 4, .int .i64 1, .int .i64 1]) (by simp [results, Tryz.results174, go_sem]) rfl ⟨rfl, ?_⟩
    exact (Below.refl _ _).alloc (Nat.le_refl _) _
  · refine bodyPost_ret (v := .agg #[.int .i64 0, .int .i64 0, .int .i64 0]) (by simp [results, Tryz.results174, go_sem]) rfl ⟨?_, ?_⟩
    · rw [show tag1 t = 0 by unfold tag1; rw [if_neg (by omega), if_neg (by omega)], show tag2 t = 0 by unfold tag2; rw [if_neg (by omega)]]
    · exact (Below.refl _ _).alloc (Nat.le_refl _) _
/-- The error of the texts that a constant holds or leads to. -/
def textE (p : List Cn) (c : Cn) : Int :=
  if c.tag = 1 then runesE c.text else if c.tag = 4 then nameE (textP p c.a) else if c.tag = 7 then typeE (textP p c.a)
  else if c.tag = 5 then pairE p c.b c.c typeE else if c.tag = 6 then pairE p c.b c.c sigE else 0
set_option maxRecDepth 1000000 in
set_option maxHeartbeats 1600000 in
theorem textErr_any {B : Nat} (f : Fl) (v : Value) (w : World) (hf : FileAt B w v f) (hB : B ≤ w.heap.size) (ht : Texts f.pool) (c : Cn) (hc : c.text.size ≤ 1000000000000000) :
    Calls Tryz.prog 176 #[v, constV c] w fun e w' => e = .returned (.int .i64 (textE f.pool c)) ∧ Below w.heap.size w w' := by
  obtain ⟨tag, text, n, a, b, d⟩ := c
  unfold constV
  simp only at hc ⊢
  have HT := Lib.hid (fun V W hW hWB j => textOf_any (B := B) f V W hW hWB j)
  have HR := fun W => Lib.hid (runesErr_any text W hc)
  have HN := fun W => Lib.hid (nameErr_any (textP f.pool a) W)
  have HG := fun W => Lib.hid (typeErr_any (textP f.pool a) W (textP_le ht a))
  have HP5 := Lib.hid (fun V W hW hWB => pairErr_any (B := B) f V W hW hWB ht b d 182 typeE (.inl ⟨rfl, rfl⟩))
  have HP6 := Lib.hid (fun V W hW hWB => pairErr_any (B := B) f V W hW hWB ht b d 183 sigE (.inr ⟨rfl, rfl⟩))
  obtain ⟨Ap, cp, Ai, ci, Af, cf, Am, cm, rfl, hi⟩ := id hf
  have HBE := Lib.hid (((Below.refl w.heap.size w).alloc (Nat.le_refl _) (.cells #[.slice Ap f.pool.length cp, .int .i64 f.fl, .int .i64 f.this, .int .i64 f.super, .slice Ai f.ifs.length ci, .slice Af f.fds.length cf, .slice Am f.mts.length cm] 94)).alloc (by simp) (.cells #[.int .i64 tag, .string text, .int .i64 n, .int .i64 a, .int .i64 b, .int .i64 d] 138))
  have HFL := Lib.hid ((hf.alloc hB (.cells #[.slice Ap f.pool.length cp, .int .i64 f.fl, .int .i64 f.this, .int .i64 f.super, .slice Ai f.ifs.length ci, .slice Af f.fds.length cf, .slice Am f.mts.length cm] 94)).alloc (by simp; omega) (.cells #[.int .i64 tag, .string text, .int .i64 n, .int .i64 a, .int .i64 b, .int .i64 d] 138))
  have HE := Lib.hid (show textE f.pool ⟨tag, text, n, a, b, d⟩ = if tag = 1 then runesE text else if tag = 4 then nameE (textP f.pool a) else if tag = 7 then typeE (textP f.pool a)
    else if tag = 5 then pairE f.pool b d typeE else if tag = 6 then pairE f.pool b d sigE else 0 from rfl)
  generalize textE f.pool ⟨tag, text, n, a, b, d⟩ = R at *
  clear hi hf
  have htg : tag = 1 ∨ tag = 4 ∨ tag = 7 ∨ tag = 5 ∨ tag = 6 ∨ (tag ≠ 1 ∧ tag ≠ 4 ∧ tag ≠ 7 ∧ tag ≠ 5 ∧ tag ≠ 6) := by omega
  rcases htg with rfl | rfl | rfl | rfl | rfl | ⟨h1, h4, h7, h5, h6⟩
  · go_enter Tryz.func176, Tryz.ntmps176
    go_wp2_with fail
    refine (HR _).out.mono ?_
    rintro e w1 ⟨rfl, hb⟩
    have HB1 := Lib.hid (Below.link HBE.out hb)
    clear hb
    go_wp2
    go_ret
    exact ⟨ret_i (by rw [HE.out]; simp), HB1.out⟩
  · go_enter Tryz.func176, Tryz.ntmps176
    go_wp2_with fail
    refine (HT.out _ _ HFL.out (by simp; omega) a).mono ?_
    rintro e w1 ⟨rfl, hb⟩
    have HB1 := Lib.hid (Below.link HBE.out hb)
    clear hb
    go_wp2_with fail
    refine (HN _).out.mono ?_
    rintro e w2 ⟨rfl, hb⟩
    have HB2 := Lib.hid (Below.link HB1.out hb)
    clear hb
    go_wp2
    go_ret
    exact ⟨ret_i (by rw [HE.out]; simp), HB2.out⟩
  · go_enter Tryz.func176, Tryz.ntmps176
    go_wp2_with fail
    refine (HT.out _ _ HFL.out (by simp; omega) a).mono ?_
    rintro e w1 ⟨rfl, hb⟩
    have HB1 := Lib.hid (Below.link HBE.out hb)
    clear hb
    go_wp2_with fail
    refine (HG _).out.mono ?_
    rintro e w2 ⟨rfl, hb⟩
    have HB2 := Lib.hid (Below.link HB1.out hb)
    clear hb
    go_wp2
    go_ret
    exact ⟨ret_i (by rw [HE.out]; simp), HB2.out⟩
  · go_enter Tryz.func176, Tryz.ntmps176
    go_wp2_with fail
    refine (HP5.out _ _ HFL.out (by simp; omega)).mono ?_
    rintro e w1 ⟨rfl, hb⟩
    have HB1 := Lib.hid (Below.link HBE.out hb)
    clear hb
    go_wp2
    go_ret
    exact ⟨ret_i (by rw [HE.out]; simp), HB1.out⟩
  · go_enter Tryz.func176, Tryz.ntmps176
    go_wp2_with fail
    refine (HP6.out _ _ HFL.out (by simp; omega)).mono ?_
    rintro e w1 ⟨rfl, hb⟩
    have HB1 := Lib.hid (Below.link HBE.out hb)
    clear hb
    go_wp2
    go_ret
    exact ⟨ret_i (by rw [HE.out]; simp), HB1.out⟩
  · have g1 : (tag == 1) = false := by simpa using h1
    have g4 : (tag == 4) = false := by simpa using h4
    have g7 : (tag == 7) = false := by simpa using h7
    have g5 : (tag == 5) = false := by simpa using h5
    have g6 : (tag == 6) = false := by simpa using h6
    go_enter Tryz.func176, Tryz.ntmps176
    go_wp2
    go_ret
    exact ⟨ret_i (by rw [HE.out]; simp [h1, h4, h7, h5, h6]), HBE.out⟩
end Go.Proofs.YtmaknddlgppinaaGreatDoor
