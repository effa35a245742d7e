/-
  CUT and joined from the texts of this seat: Hy Az
-/
import Derived.Test.YtmaknddlgppinaaGreatDoorZ26
set_option linter.unusedVariables false
set_option linter.unusedSimpArgs false
namespace Go.Proofs.YtmaknddlgppinaaGreatDoor
open Go.RowKit
def cn1 (s : ByteArray) : Cn := ⟨1, s, 0, 0, 0, 0⟩
def cn4 (a : Int) : Cn := ⟨4, ⟨#[]⟩, 0, a, 0, 0⟩
def ifPool : List ByteArray → Nat → List Cn
 | [], _ => []
 | s :: r, i => cn1 s :: cn4 (5 + 2 * (i : Int)) :: ifPool r (i + 1)
/-- The file of a name, one above it, some interfaces. -/
def rawP (fl : Int) (nm sp : ByteArray) (l : List ByteArray) : Fl :=
 { pool := [cn1 nm, cn4 1, cn1 sp, cn4 3] ++ ifPool l 0, fl := fl, this := 2, super := 4, ifs := (List.range l.length).map fun (i : Nat) => 6 + 2 * (i : Int), fds := [], mts := [] }
/-- A text that a class may be named by, and that is short. -/
structure OkN (s : ByteArray) : Prop where
 name : nameL (L s) = true
 text : runesE s = 0
 enc : (mkB (encA (L s))).size ≤ 100
 size : s.size ≤ 100
theorem ifPool_length : ∀ (l : List ByteArray) (i : Nat), (ifPool l i).length = 2 * l.length
 | [], _ => rfl
 | s :: r, i => by simp [ifPool, ifPool_length r]; omega
theorem ifPool_at : ∀ (l : List ByteArray) (i k : Nat) (s : ByteArray), l[k]? = some s → (ifPool l i)[2 * k]? = some (cn1 s) ∧ (ifPool l i)[2 * k + 1]? = some (cn4 (5 + 2 * ((i + k : Nat) : Int)))
 | [], _, _, _, h => by simp at h
 | x :: r, i, 0, s, h => by
  simp only [List.getElem?_cons_zero, Option.some.injEq] at h
  subst h
  simp [ifPool]
 | x :: r, i, k + 1, s, h => by
  simp only [List.getElem?_cons_succ] at h
  have := ifPool_at r (i + 1) k s h
  rw [show 2 * (k + 1) = 2 * k + 1 + 1 by omega, show 2 * k + 1 + 1 + 1 = (2 * k + 1) + 1 + 1 by omega]
  simp only [ifPool, List.getElem?_cons_succ]
  rw [show i + (k + 1) = i + 1 + k by omega]
  exact this
theorem ifPool_mem : ∀ (l : List ByteArray) (i : Nat) (c : Cn), c ∈ ifPool l i → ∃ k s, l[k]? = some s ∧ (c = cn1 s ∨ c = cn4 (5 + 2 * ((i + k : Nat) : Int)))
 | [], _, c, h => by simp [ifPool] at h
 | x :: r, i, c, h => by
  simp only [ifPool, List.mem_cons] at h
  rcases h with rfl | rfl | h
  ·exact ⟨0, x, rfl, .inl rfl⟩
  ·exact ⟨0, x, rfl, .inr rfl⟩
  ·obtain ⟨k, s, h1, h2⟩ := ifPool_mem r (i + 1) c h
   exact ⟨k + 1, s, h1, by rw [show i + (k + 1) = i + 1 + k by omega]; exact h2⟩
section
variable {fl : Int} {nm sp : ByteArray} {l : List ByteArray}
theorem raw_len : (rawP fl nm sp l).pool.length = 4 + 2 * l.length := by simp [rawP, ifPool_length]; omega
theorem raw_at {k : Nat} {s : ByteArray} (h : l[k]? = some s) : (rawP fl nm sp l).pool[4 + 2 * k]? = some (cn1 s) ∧ (rawP fl nm sp l).pool[5 + 2 * k]? = some (cn4 (5 + 2 * (k : Int))) := by
 obtain ⟨h1, h2⟩ := ifPool_at l 0 k s h
 unfold rawP
 constructor
 ·rw [List.getElem?_append_right (by simp)]
  simpa using h1
 ·rw [List.getElem?_append_right (by simp; omega)]
  simpa [show 5 + 2 * k - 4 = 2 * k + 1 by omega] using h2
theorem raw_mem {c : Cn} (h : c ∈ (rawP fl nm sp l).pool) : (∃ s, c = cn1 s ∧ (s = nm ∨ s = sp ∨ s ∈ l)) ∨ ∃ (q : Nat) (s : ByteArray), c = cn4 ((q : Int) + 1) ∧ (rawP fl nm sp l).pool[q]? = some (cn1 s) ∧ (s = nm ∨ s = sp ∨ s ∈ l) := by
 have h' := h
 unfold rawP at h'
 rcases List.mem_append.1 h' with h' | h'
 ·simp only [List.mem_cons, List.not_mem_nil, or_false] at h'
  rcases h' with rfl | rfl | rfl | rfl
  ·exact .inl ⟨nm, rfl, .inl rfl⟩
  ·exact .inr ⟨0, nm, rfl, rfl, .inl rfl⟩
  ·exact .inl ⟨sp, rfl, .inr (.inl rfl)⟩
  ·exact .inr ⟨2, sp, rfl, rfl, .inr (.inl rfl)⟩
 ·obtain ⟨k, s, h1, h2⟩ := ifPool_mem l 0 c h'
  have hm := List.mem_of_getElem? h1
  rcases h2 with rfl | rfl
  ·exact .inl ⟨s, rfl, .inr (.inr hm)⟩
  ·exact .inr ⟨4 + 2 * k, s, by congr 1; omega, (raw_at h1).1, .inr (.inr hm)⟩
theorem raw_texts (hnm : OkN nm) (hsp : OkN sp) (hl : ∀ s ∈ l, OkN s) : Texts (rawP fl nm sp l).pool := by
 intro c hc
 rcases raw_mem hc with ⟨s, rfl, h⟩ | ⟨q, s, rfl, _, _⟩
 ·have : OkN s := by rcases h with rfl | rfl | h; exact hnm; exact hsp; exact hl s h
  have := this.size
  show s.size ≤ _
  omega
 ·show (0 : Nat) ≤ _
  omega
theorem raw_const (hnm : OkN nm) (hsp : OkN sp) (hl : ∀ s ∈ l, OkN s) {c : Cn} (hc : c ∈ (rawP fl nm sp l).pool) : constE (rawP fl nm sp l).pool c = 0 := by
 rcases raw_mem hc with ⟨s, rfl, h⟩ | ⟨q, s, rfl, h2, h⟩
 ·have : OkN s := by rcases h with rfl | rfl | h; exact hnm; exact hsp; exact hl s h
  simp [constE, rightTagB, linksB, linkB, tag1, tag2, textE, cn1, this.text]
 ·have : OkN s := by rcases h with rfl | rfl | h; exact hnm; exact hsp; exact hl s h
  have t := tagged_at (t := 1) h2
  have x := textP_at h2 rfl
  rw [show (cn1 s).tag = 1 from rfl] at t
  have hn : nameL (L (textP (rawP fl nm sp l).pool ((q : Int) + 1))) = true := by rw [x]; exact this.name
  simp [constE, rightTagB, linksB, linkB, tag1, tag2, textE, cn4, t, nameE, hn, ByteArray.size]
theorem firstErr_all {α : Type} {g : α → Int} : ∀ {l : List α}, (∀ x ∈ l, g x = 0) → firstErr g l = 0
 | [], _ => rfl
 | x :: l, h => by unfold firstErr; rw [if_pos (h x (by simp))]; exact firstErr_all fun y hy => h y (by simp [hy])
theorem raw_if {k : Nat} {s : ByteArray} (h : l[k]? = some s) : tagged (rawP fl nm sp l).pool (6 + 2 * (k : Int)) 4 = true ∧ classP (rawP fl nm sp l).pool (6 + 2 * (k : Int)) = s := by
 obtain ⟨h1, h2⟩ := raw_at (fl := fl) (nm := nm) (sp := sp) h
 have t := tagged_at (t := 4) h2
 have c := clsL_at h2
 have x := textP_at h1 rfl
 have e : ((5 + 2 * k : Nat) : Int) + 1 = 6 + 2 * (k : Int) := by omega
 have e2 : ((4 + 2 * k : Nat) : Int) + 1 = 5 + 2 * (k : Int) := by omega
 rw [e] at t c
 rw [e2] at x
 have t := t.trans (decide_eq_true rfl)
 refine ⟨t, ?_⟩
 unfold classP
 rw [if_pos t, c]
 exact x
theorem raw_this : tagged (rawP fl nm sp l).pool 2 4 = true ∧ classP (rawP fl nm sp l).pool 2 = nm := ⟨rfl, rfl⟩
theorem raw_super : tagged (rawP fl nm sp l).pool 4 4 = true ∧ classP (rawP fl nm sp l).pool 4 = sp := ⟨rfl, rfl⟩
theorem raw_parts (hnm : OkN nm) (hsp : OkN sp) (hl : ∀ s ∈ l, OkN s) (h4 : l.length ≤ 16) (hfl : fl = 0 ∨ fl = 2 ∨ fl = 3) : partsE (rawP fl nm sp l) = 0 := by
 have h1 : poolE (rawP fl nm sp l).pool = 0 := by
  unfold poolE
  rw [if_neg (by rw [raw_len]; omega)]
  exact firstErr_all fun c hc => raw_const hnm hsp hl hc
 have h2 : classE (rawP fl nm sp l) = 0 := by
  unfold classE
  rw [if_pos (show (rawP fl nm sp l).fl = 0 ∨ (rawP fl nm sp l).fl = 2 ∨ (rawP fl nm sp l).fl = 3 from hfl), if_pos (show tagged (rawP fl nm sp l).pool (rawP fl nm sp l).this 4 = true from raw_this.1), if_pos (by unfold noneB; rw [show (rawP fl nm sp l).super = 4 from rfl, raw_super.1, Bool.or_true]), if_neg (by simp [rawP]; omega), if_pos]
  rw [List.all_eq_true]
  intro i hi
  obtain ⟨k, hk, rfl⟩ := List.mem_map.1 hi
  have hk := List.mem_range.1 hk
  exact (raw_if (List.getElem?_eq_getElem hk)).1
 unfold partsE
 rw [if_pos h1, if_pos h2]
 simp [fieldsE, methodsE, memsE, rawP, firstErr]
theorem raw_bytes (hnm : OkN nm) (hsp : OkN sp) (hl : ∀ s ∈ l, OkN s) (h4 : l.length ≤ 16) : (fileN (rawP fl nm sp l)).length ≤ 65536 := by
 have hc : ∀ c ∈ (rawP fl nm sp l).pool, (constN c).length ≤ 200 := by
  intro c hc
  rcases raw_mem hc with ⟨s, rfl, h⟩ | ⟨q, s, rfl, _, _⟩
  ·have : OkN s := by rcases h with rfl | rfl | h; exact hnm; exact hsp; exact hl s h
   have h3 := this.enc
   have h5 : (L (mkB (encA (L s)))).length ≤ 100 := h3
   simp only [constN, restN, cn1, if_true, textN, List.length_append, beN_length]
   omega
  ·have e : constN (cn4 ((q : Int) + 1)) = beN 1 4 ++ linksN [(q : Int) + 1] := rfl
   rw [e]
   simp [linksN, beN_length]
 have h1 := flat_le constN 200 _ hc
 have h2 := flat_le (fun i => linksN [i]) 2 (rawP fl nm sp l).ifs (fun i _ => by simp [linksN, beN_length])
 rw [raw_len] at h1
 have h3 : (rawP fl nm sp l).ifs.length = l.length := by simp [rawP]
 rw [h3] at h2
 unfold fileN listN
 simp only [List.length_append, beN_length, List.length_cons, List.length_nil]
 have h6 : (linksN [(rawP fl nm sp l).this, (rawP fl nm sp l).super]).length = 4 := by simp [linksN, beN_length]
 have h7 : ((rawP fl nm sp l).fds.flatMap headN).length = 0 := rfl
 have h8 : ((rawP fl nm sp l).mts.flatMap methN).length = 0 := rfl
 rw [h6, h7, h8]
 omega
theorem raw_right (hnm : OkN nm) (hsp : OkN sp) (hl : ∀ s ∈ l, OkN s) (h4 : l.length ≤ 16) (hfl : fl = 0 ∨ fl = 2 ∨ fl = 3) : encF (rawP fl nm sp l) = 0 := by
 unfold encF
 rw [if_pos (raw_parts hnm hsp hl h4 hfl), if_pos (raw_bytes hnm hsp hl h4)]
end
set_option maxRecDepth 1000000 in
set_option maxHeartbeats 6400000 in
theorem Encode_raw {B : Nat} (f : Fl) (v : Value) (w : World) (hf : FileAt B w v f) (hB : B ≤ w.heap.size) (ht : Texts f.pool) (h14 : ∀ c ∈ f.pool, c.tag = 1 ∨ c.tag = 4) (h0 : partsE f = 0) (hfd : f.fds.length = 0) (hmt : f.mts.length = 0) :
  Calls Tryz.prog 120 #[v] w fun e w' => e = .returned (.tuple #[.string (encT f), .int .i64 (encF f)]) ∧ Below w.heap.size w w' := by
 have HP := Lib.hid (fun V W hW hWB => partsErr_raw (B := B) f V W hW hWB ht h14 (partsE_fine h0).pools (partsE_fine h0).cls hfd hmt)
 have HA1 := Lib.hid (fun V W hW hWB => appendFile_any (B := B) f V W hW hWB ht (partsE_fine h0))
 have HT := Lib.hid (show encT f = if (fileN f).length ≤ 65536 then mkB (fileN f) else ⟨#[]⟩ by simp only [encT, h0, true_and])
 have HE := Lib.hid (show encF f = if (fileN f).length ≤ 65536 then 0 else 2 by simp only [encF, h0, if_true])
 generalize encT f = T at *
 generalize encF f = E at *
 obtain ⟨Ap, cp, Ai, ci, Af, cf, Am, cm, rfl, hi⟩ := id hf
 have BE0 := Lib.hid ((Below.refl w.heap.size w).alloc (Nat.le_refl _) (.cells #[.slice Ap f.pool.length cp, .int .i64 f.fl, .int .i64 f.this, .int .i64 f.super, .slice Ai f.ifs.length ci, .slice Af f.fds.length cf, .slice Am f.mts.length cm] 94))
 have BF0 := Lib.hid (FBox.new Ap cp Ai ci Af cf Am cm f w)
 have FL0 := Lib.hid (hf.alloc hB (.cells #[.slice Ap f.pool.length cp, .int .i64 f.fl, .int .i64 f.this, .int .i64 f.super, .slice Ai f.ifs.length ci, .slice Af f.fds.length cf, .slice Am f.mts.length cm] 94))
 clear hi hf ht h14 h0 hfd hmt
 go_enter Tryz.func120, Tryz.ntmps120
 go_wp2_with fail
 refine (HP.out _ _ FL0.out (by simp; omega)).mono ?_
 rintro e w1 ⟨rfl, hb⟩
 have BE1 := Lib.hid (Below.link BE0.out hb)
 have BF1 := Lib.hid (BF0.out.below hb (BF0.out.lt))
 have FL1 := Lib.hid (FL0.out.below hb (Nat.le_trans hB BE0.out.size))
 have lt1 := BF1.out.lt
 clear hb
 obtain ⟨c0, c1, c2, c3, c4, c5, c6⟩ := BF1.out.cells
 go_wp2_with fail
 refine (HA1.out _ _ FL1.out (by omega)).mono ?_
 rintro e w2 ⟨v2, rfl, hown, hb⟩
 have BE2 := Lib.hid (Below.link BE1.out hb)
 have HO2 := Lib.hid hown
 obtain ⟨a, c, rfl⟩ := hown.slice
 clear hb hown c0 c1 c2 c3 c4 c5 c6
 generalize fileN f = N at *
 by_cases hl : N.length ≤ 65536
 ·have HT1 := Lib.hid (show T = mkB N by rw [HT.out]; simp [hl])
  have HE1 := Lib.hid (show E = 0 by rw [HE.out]; simp [hl])
  have hl' : (N.length : Int) ≤ 65536 := by omega
  have hcv : (convert 166 9 (.slice a N.length c)).run Tryz.prog w2 = .ok (.string ⟨N.toArray⟩) w2 := string_owned HO2.out.app
  clear hl
  go_wp2
  go_ret2
  rw [HT1.out, HE1.out]
  exact ⟨rfl, BE2.out⟩
 ·have HT1 := Lib.hid (show T = ⟨#[]⟩ by rw [HT.out, if_neg hl])
  have HE1 := Lib.hid (show E = 2 by rw [HE.out]; simp [hl])
  have hl' : (65536 : Int) < N.length := by omega
  clear hl
  go_wp2
  go_ret2
  rw [HT1.out, HE1.out]
  exact ⟨rfl, BE2.out⟩
set_option maxRecDepth 1000000 in
set_option maxHeartbeats 6400000 in
theorem Right_raw {B : Nat} (f : Fl) (v : Value) (w : World) (hf : FileAt B w v f) (hB : B ≤ w.heap.size) (ht : Texts f.pool) (h14 : ∀ c ∈ f.pool, c.tag = 1 ∨ c.tag = 4) (h0 : partsE f = 0) (hfd : f.fds.length = 0) (hmt : f.mts.length = 0) :
  Calls Tryz.prog 105 #[v] w fun e w' => e = .returned (.int .i64 (encF f)) ∧ Below w.heap.size w w' := by
 have HP := Lib.hid (fun V W hW hWB => Encode_raw (B := B) f V W hW hWB ht h14 h0 hfd hmt)
 obtain ⟨Ap, cp, Ai, ci, Af, cf, Am, cm, rfl, hi⟩ := id hf
 have BE0 := Lib.hid ((Below.refl w.heap.size w).alloc (Nat.le_refl _) (.cells #[.slice Ap f.pool.length cp, .int .i64 f.fl, .int .i64 f.this, .int .i64 f.super, .slice Ai f.ifs.length ci, .slice Af f.fds.length cf, .slice Am f.mts.length cm] 94))
 have FL0 := Lib.hid (hf.alloc hB (.cells #[.slice Ap f.pool.length cp, .int .i64 f.fl, .int .i64 f.this, .int .i64 f.super, .slice Ai f.ifs.length ci, .slice Af f.fds.length cf, .slice Am f.mts.length cm] 94))
 clear hi hf ht h14 h0 hfd hmt
 go_enter Tryz.func105, Tryz.ntmps105
 go_wp2_with fail
 refine (HP.out _ _ FL0.out (by simp; omega)).mono ?_
 rintro e w1 ⟨rfl, hb⟩
 have BE1 := Lib.hid (Below.link BE0.out hb)
 clear hb
 go_wp2
 go_ret
 exact ⟨rfl, BE1.out⟩
/-- A file that a table may be asked to take: its texts are short, and Right answers of it. -/
def FileOk (f : Fl) : Prop :=
 Texts f.pool ∧ ∀ (B : Nat) (v : Value) (W : World), FileAt B W v f → B ≤ W.heap.size → Calls Tryz.prog 105 #[v] W fun e w' => e = .returned (.int .i64 (encF f)) ∧ Below W.heap.size W w'
theorem rawF_ok {fl : Int} {nm sp : ByteArray} {l : List ByteArray} (hnm : OkN nm) (hsp : OkN sp) (hl : ∀ s ∈ l, OkN s) (h4 : l.length ≤ 16) (hfl : fl = 0 ∨ fl = 2 ∨ fl = 3) : FileOk (rawP fl nm sp l) :=
 ⟨raw_texts hnm hsp hl, fun B v W hf hB => Right_raw (B := B) _ v W hf hB (raw_texts hnm hsp hl) (fun c hc => by
  rcases raw_mem hc with ⟨s, rfl, _⟩ | ⟨q, s, rfl, _, _⟩
  ·exact .inl rfl
  ·exact .inr rfl) (raw_parts hnm hsp hl h4 hfl) rfl rfl⟩
end Go.Proofs.YtmaknddlgppinaaGreatDoor
