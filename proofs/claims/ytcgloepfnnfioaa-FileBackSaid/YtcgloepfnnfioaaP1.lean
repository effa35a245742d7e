/-
  THE READER of a file's bytes: its value in memory; WALKS of fail, take, number, link, text.
  WALKS of the reader: name, head, handler.
  WALK of the reader: a constant.
-/
import Derived.Test.YtcgloepfnnfioaaD6
import Derived.Test.YtcgloepfnnfioaaW11
import Derived.Laws.IdiomStrings
import Derived.Test.YtcgloepfnnfioaaRd
import Derived.Test.YtcgloepfnnfioaaE2
set_option linter.unusedVariables false
set_option linter.unusedSimpArgs false
namespace Go.Proofs.Ytcgloepfnnfioaa
open Go.RowKit

/-- The reader at block q: what is left, and the first error. -/
def RBox (q : Nat) (s : ByteArray) (e : Int) (w : World) : Prop := w.heap[q]? = some (.cells #[.string s, .int .i64 e] 57 (0, 0))
theorem RBox.lt {q : Nat} {s : ByteArray} {e : Int} {w : World} (h : RBox q s e w) : q < w.heap.size := lt_of_block h
theorem RBox.cells {q : Nat} {s : ByteArray} {e : Int} {w : World} (h : RBox q s e w) : w.cell? ⟨q, 0, none⟩ = some (.string s) ∧ w.cell? ⟨q, 1, none⟩ = some (.int .i64 e) := ⟨cells_of h 0, cells_of h 1⟩
/-- Nothing but block q is other than it was. -/
structure Upd (q : Nat) (w w' : World) : Prop where
  os : w'.os = w.os
  tape : w'.tape = w.tape
  output : w'.output = w.output
  size : w.heap.size ≤ w'.heap.size
  block : ∀ k, k < w.heap.size → k ≠ q → w'.heap[k]? = w.heap[k]?
theorem Upd.refl (q : Nat) (w : World) : Upd q w w := ⟨rfl, rfl, rfl, Nat.le_refl _, fun _ _ _ => rfl⟩
theorem Upd.trans {q : Nat} {a b c : World} (h : Upd q a b) (k : Upd q b c) : Upd q a c := ⟨k.os.trans h.os, k.tape.trans h.tape, k.output.trans h.output, Nat.le_trans h.size k.size, fun i hi hn => (k.block i (Nat.lt_of_lt_of_le hi h.size) hn).trans (h.block i hi hn)⟩
theorem Upd.of_below {q : Nat} {w w' : World} (h : Below w.heap.size w w') : Upd q w w' := ⟨h.os, h.tape, h.output, h.size, fun k hk _ => h.block k hk⟩
theorem Upd.below {q : Nat} {w w' : World} (h : Upd q w w') (hq : q ≤ w.heap.size) : Below q w w' := ⟨h.os, h.tape, h.output, h.size, fun k hk => h.block k (by omega) (by omega)⟩
theorem Upd.alloc {q : Nat} {a w : World} (h : Upd q a w) (o : Obj) : Upd q a (w.alloc o) := h.trans (Upd.of_below ((Below.refl _ _).alloc (Nat.le_refl _) o))
theorem Upd.drew {q : Nat} {a w : World} (h : Upd q a w) : Upd q a w.drew := h.trans (Upd.of_below (Below.refl _ _).drew)
theorem Upd.set {q i : Nat} {w : World} {u : Value} : Upd q w (w.setCell ⟨q, i, none⟩ u) := ⟨rfl, rfl, rfl, by simp [World.setCell], fun k _ hk => Below.heap_setCell _ _ _ _ (fun e => hk (by simp [e]))⟩
theorem RBox.below {q : Nat} {s : ByteArray} {e : Int} {w w' : World} (h : RBox q s e w) (hb : Below w.heap.size w w') : RBox q s e w' := Below.keep hb h.lt h
theorem RBox.alloc {q : Nat} {s : ByteArray} {e : Int} {w : World} (h : RBox q s e w) (o : Obj) : RBox q s e (w.alloc o) := heap_alloc_lt h
theorem heap_set_eq2 {w : World} {b i : Nat} {u : Value} {cs : Array Value} {t : TypeId} {m : Nat × Nat} (h : w.heap[b]? = some (.cells cs t m)) : (w.setCell ⟨b, i, none⟩ u).heap[b]? = some (.cells (cs.setIfInBounds i u) t m) := by
  have hlt := lt_of_block h
  simp only [World.setCell, Array.getElem?_modify, h]
  simp
theorem RBox.set1 {q : Nat} {s : ByteArray} {e x : Int} {w : World} (h : RBox q s e w) : RBox q s x (w.setCell ⟨q, 1, none⟩ (.int .i64 x)) := heap_set_eq2 h
theorem RBox.set0 {q : Nat} {s t : ByteArray} {e : Int} {w : World} (h : RBox q s e w) : RBox q t e (w.setCell ⟨q, 0, none⟩ (.string t)) := heap_set_eq2 h
def failE (e x : Int) : Int := if e = 0 then x else e
set_option maxRecDepth 1000000 in
set_option maxHeartbeats 3200000 in
theorem fail_any (q : Nat) (s : ByteArray) (e x : Int) (w : World) (h : RBox q s e w) :
    Calls Try.prog 35 #[.pointer (some ⟨q, 0, none⟩), .int .i64 x] w fun en w' => en = .returned (.tuple #[]) ∧ RBox q s (failE e x) w' ∧ Upd q w w' := by
  have R0 := Lib.hid h
  have lt0 := h.lt
  obtain ⟨c0, c1⟩ := h.cells
  clear h
  by_cases he : e = 0
  · subst he
    have R1 := Lib.hid (R0.out.set1 (x := x))
    have U1 := Lib.hid (Upd.set (q := q) (i := 1) (w := w) (u := .int .i64 x))
    have hf : w.frozen? ⟨q, 1, none⟩ = false := free_of R0.out 1
    go_enter Try.func35, Try.ntmps35
    go_wp2
    go_end0
    exact ⟨rfl, R1.out, U1.out⟩
  · have HF := Lib.hid (show failE e x = e by unfold failE; rw [if_neg he])
    have g1 : (e == 0) = false := by simpa using he
    clear he
    go_enter Try.func35, Try.ntmps35
    go_wp2
    go_end0
    exact ⟨rfl, by rw [HF.out]; exact R0.out, Upd.refl _ _⟩
/-- What take answers, and what it leaves. -/
def tk (n : Nat) (s : List UInt8) (e : Int) : List UInt8 × List UInt8 × Int := if e = 0 then (if n ≤ s.length then (s.take n, s.drop n, 0) else ([], s, 5)) else ([], s, e)
set_option maxRecDepth 1000000 in
set_option maxHeartbeats 6400000 in
theorem take_any (q : Nat) (s : ByteArray) (e : Int) (w : World) (h : RBox q s e w) (n : Nat) (hn : n ≤ 1000000) :
    Calls Try.prog 63 #[.pointer (some ⟨q, 0, none⟩), .int .i64 n] w fun en w' => ∃ t s', en = .returned (.string t) ∧ L t = (tk n (L s) e).1 ∧ L s' = (tk n (L s) e).2.1 ∧ RBox q s' (tk n (L s) e).2.2 w' ∧ Upd q w w' := by
  have hsz := size_L s
  have R0 := Lib.hid h
  have lt0 := h.lt
  have HFA := Lib.hid (fail_any q s e 5 w h)
  obtain ⟨c0, c1⟩ := h.cells
  clear h
  by_cases hl : n ≤ s.size
  · by_cases he : e = 0
    · subst he
      have HT := Lib.hid (show tk n (L s) 0 = ((L s).take n, (L s).drop n, 0) by unfold tk; rw [if_pos rfl, if_pos (by omega)])
      have hl' : (n : Int) ≤ s.size := by omega
      have hf : w.frozen? ⟨q, 0, none⟩ = false := free_of R0.out 0
      clear hsz
      go_enter Try.func63, Try.ntmps63
      go_wp2
      go_ret
      exact ⟨_, _, rfl, by rw [HT.out]; simp [L_extract], by rw [HT.out, L_extract]; exact List.take_of_length_le (by rw [List.length_drop, ← size_L]; exact Nat.le_refl _), by rw [HT.out]; exact R0.out.set0, Upd.set⟩
    · have HT := Lib.hid (show tk n (L s) e = ([], L s, e) by unfold tk; rw [if_neg he])
      have g1 : (e == 0) = false := by simpa using he
      have g2 : (e != 0) = true := by simpa using he
      have hl' : (n : Int) ≤ s.size := by omega
      clear he hsz
      go_enter Try.func63, Try.ntmps63
      go_wp2
      go_ret
      exact ⟨⟨#[]⟩, _, rfl, by rw [HT.out], by rw [HT.out], by rw [HT.out]; exact R0.out, Upd.refl _ _⟩
  · have HT := Lib.hid (show tk n (L s) e = ([], L s, failE e 5) by unfold tk failE; by_cases he : e = 0 <;> simp [he]; omega)
    have hne : failE e 5 ≠ 0 := by unfold failE; split <;> simp_all
    have g1 : (failE e 5 == 0) = false := by simpa using hne
    have g2 : (failE e 5 != 0) = true := by simpa using hne
    have hl' : (s.size : Int) < n := by omega
    clear hne hsz
    generalize failE e 5 = E at *
    go_enter Try.func63, Try.ntmps63
    go_wp2_with fail
    refine (HFA.out).mono ?_
    rintro en w1 ⟨rfl, hr, hu⟩
    have R1 := Lib.hid (show RBox q s E w1 from hr)
    have U1 := Lib.hid hu
    have lt1 := hr.lt
    clear hr hu c0 c1
    obtain ⟨c0, c1⟩ := R1.out.cells
    go_wp2
    go_ret
    exact ⟨⟨#[]⟩, _, rfl, by rw [HT.out], by rw [HT.out], by rw [HT.out]; exact R1.out, U1.out⟩
/-- The number that bytes are. -/
def beV (l : List UInt8) : Int := l.foldl (fun n b => n * 256 + (b.toNat : Int)) 0
theorem beV_snoc (l : List UInt8) (b : UInt8) : beV (l ++ [b]) = beV l * 256 + (b.toNat : Int) := by simp [beV, List.foldl_append]
theorem or_i64 (x : Int) (c : Nat) (h1 : -9223372036854775808 ≤ x) (h2 : x ≤ 9223372036854775807) (h : x % 256 = 0) (hc : c < 256) : bits .or .i64 x (c : Int) = x + c := by
  show IntKind.i64.wrap ((BitVec.ofInt 64 x ||| BitVec.ofInt 64 (c : Int)).toNat : Int) = _
  have hx : (BitVec.ofInt 64 x).toNat = (x % 18446744073709551616).toNat := by rw [BitVec.toNat_ofInt]; rfl
  have hcn : (BitVec.ofInt 64 (c : Int)).toNat = c := by rw [BitVec.ofInt_natCast, BitVec.toNat_ofNat]; exact Nat.mod_eq_of_lt (by omega)
  rw [BitVec.toNat_or, hx, hcn]
  obtain ⟨a, ha⟩ : ∃ a, (x % 18446744073709551616).toNat = a * 256 := ⟨(x % 18446744073709551616).toNat / 256, by omega⟩
  rw [ha]
  have h3 := Nat.two_pow_add_eq_or_of_lt (i := 8) (b := c) (by omega) a
  rw [show (2 : Nat) ^ 8 = 256 by rfl, Nat.mul_comm] at h3
  rw [← h3, IntKind.wrap_i64]
  omega
theorem num_step (X : Int) (c : Nat) (hc : c < 256) : bits .or .i64 (wrap64 (wrap64 X * 256)) (c : Int) = wrap64 (X * 256 + c) := by
  rw [or_i64 _ c (by unfold wrap64; omega) (by unfold wrap64; omega) (by unfold wrap64; omega) hc]
  unfold wrap64
  omega
/-- What '[]byte(s)' lays can be read. -/
theorem bytesRow_at (w : World) (t : ByteArray) (C : Nat) (m : Nat × Nat) (j : Nat) (b : UInt8) (hb : (L t)[j]? = some b) : (w.alloc (.cells (bytesRow t C) 5 m)).cell? ⟨w.heap.size, j, none⟩ = some (.int .u8 (b.toNat : Int)) := by
  rw [World.cell?_alloc_mark]
  have hj : j < t.data.size := by have := (List.getElem?_eq_some_iff.1 hb).1; rw [← size_L] at this; exact this
  unfold bytesRow
  rw [Array.getElem?_append_left (by rw [Array.size_map]; exact hj), Array.getElem?_map]
  have : t.data[j]? = some b := by rw [← Array.getElem?_toList]; exact hb
  rw [this]
  rfl
set_option maxRecDepth 1000000 in
set_option maxHeartbeats 6400000 in
theorem number_any (q : Nat) (s : ByteArray) (e : Int) (w : World) (h : RBox q s e w) (k : Nat) (hk : k ≤ 1000000) :
    Calls Try.prog 66 #[.pointer (some ⟨q, 0, none⟩), .int .i64 k] w fun en w' => ∃ s', en = .returned (.int .i64 (wrap64 (beV (tk k (L s) e).1))) ∧ L s' = (tk k (L s) e).2.1 ∧ RBox q s' (tk k (L s) e).2.2 w' ∧ Upd q w w' := by
  have HT := Lib.hid (take_any q s e w h k hk)
  have HLE := Lib.hid (show (tk k (L s) e).1.length ≤ 1000000 by unfold tk; split; split; (rw [List.length_take]; omega); simp; simp)
  clear h
  generalize tk k (L s) e = T at *
  obtain ⟨T1, T2, T3⟩ := T
  simp only at HT HLE ⊢
  go_enter Try.func66, Try.ntmps66
  go_wp2_with fail
  refine (HT.out).mono ?_
  rintro en w1 ⟨t, s1, rfl, ht, hs1, hr, hu⟩
  have hcv := run_bytes_of_string (P := Try.prog) w1 9 49 5 t Try.underlying9 Try.underlying49 Try.underlying5
  have HB2 := Lib.hid ((Below.refl w1.heap.size w1).drew.alloc (Nat.le_refl _) (.cells (bytesRow t (grownCap w1 t.size 0 5)) 5 ((bytesRow t (grownCap w1 t.size 0 5)).size, (bytesRow t (grownCap w1 t.size 0 5)).size + 1)))
  have HRW := Lib.hid (fun j b hb => bytesRow_at w1.drew t (grownCap w1 t.size 0 5) ((bytesRow t (grownCap w1 t.size 0 5)).size, (bytesRow t (grownCap w1 t.size 0 5)).size + 1) j b hb)
  generalize w1.drew.alloc (.cells (bytesRow t (grownCap w1 t.size 0 5)) 5 ((bytesRow t (grownCap w1 t.size 0 5)).size, (bytesRow t (grownCap w1 t.size 0 5)).size + 1)) = w2 at hcv HB2 HRW
  generalize grownCap w1 t.size 0 5 = cap at hcv
  have HLT := Lib.hid (show L t = T1 from ht)
  have HSZ := Lib.hid (show t.size = T1.length by rw [size_L, ht])
  have hsz : t.size ≤ 1000000 := by rw [HSZ.out]; exact HLE.out
  have R2 := Lib.hid (hr.below HB2.out)
  have U2 := Lib.hid (hu.trans (Upd.of_below HB2.out))
  have HS1 := Lib.hid hs1
  clear ht hs1 hr hu
  generalize t.size = N at *
  go_wp2
  clear hcv
  go_loopg [5, 13] N (fun g nv iv wx => ∃ j : Nat, iv = .int .i64 j ∧ j + g = N ∧ nv = .int .i64 (wrap64 (beV ((L t).take j))) ∧ w2 = wx)
  case atStart => exact ⟨0, rfl, by omega, by rw [List.take_zero]; simp [beV, wrap64], rfl⟩
  case round =>
    obtain ⟨j, rfl, hjg, rfl, rfl⟩ := hrel
    by_cases hj : j < N
    · have hgg : gk - 1 < gk := by omega
      have hjN : (j : Int) < (N : Int) := by omega
      have hjl : j < (L t).length := by rw [HLT.out, ← HSZ.out]; exact hj
      obtain ⟨b, hb⟩ : ∃ b, (L t)[j]? = some b := ⟨_, List.getElem?_eq_getElem hjl⟩
      have x0 := HRW.out j b hb
      have hx0 : w2.cell? ⟨w1.heap.size, j, none⟩ = some (.int .u8 (b.toNat : Int)) := x0
      clear x0
      have hb256 : b.toNat < 256 := b.toNat_lt
      have HN := Lib.hid (show (L t).take (j + 1) = (L t).take j ++ [b] by rw [List.take_succ_eq_append_getElem hjl, (List.getElem?_eq_some_iff.1 hb).2])
      generalize (L t).take j = P at *
      have hst := num_step (beV P) b.toNat hb256
      have HV := Lib.hid (show wrap64 (beV P * 256 + (b.toNat : Int)) = wrap64 (beV (P ++ [b])) by rw [beV_snoc])
      have hbi : ((b.toNat : Nat) : Int) < 256 := by omega
      have hwB : wrap64 (b.toNat : Int) = (b.toNat : Int) := by unfold wrap64; omega
      generalize (b.toNat : Int) = B at *
      clear hb hjl
      go_wp2
      go_roundg (gk - 1)
      case measure => exact hgg
      case rel => exact ⟨j + 1, by go_num, by omega, by rw [HN.out, ← HV.out], rfl⟩
    · obtain rfl : j = N := by omega
      have HA := Lib.hid (show (L t).take j = T1 by rw [HLT.out]; exact List.take_of_length_le (by rw [← HSZ.out]; exact Nat.le_refl _))
      go_wp2
      go_ret
      exact ⟨_, by rw [HA.out]; rfl, HS1.out, R2.out, U2.out⟩
theorem fold_nonneg : ∀ (l : List UInt8) (a : Int), 0 ≤ a → 0 ≤ l.foldl (fun n b => n * 256 + (b.toNat : Int)) a
  | [], a, h => h
  | b :: r, a, h => fold_nonneg r _ (by show 0 ≤ a * 256 + (b.toNat : Int); omega)
theorem beV_nonneg (l : List UInt8) : 0 ≤ beV l := fold_nonneg l 0 (by omega)
theorem fold_lt : ∀ (l : List UInt8) (a : Int), l.foldl (fun n b => n * 256 + (b.toNat : Int)) a < (a + 1) * 256 ^ l.length
  | [], a => by simp; omega
  | b :: r, a => by
    have h := fold_lt r (a * 256 + (b.toNat : Int))
    have hb := b.toNat_lt
    have hp : (0 : Int) ≤ 256 ^ r.length := Int.pow_nonneg (by decide)
    have h2 : (a * 256 + (b.toNat : Int) + 1) * 256 ^ r.length ≤ ((a + 1) * 256) * 256 ^ r.length := Int.mul_le_mul_of_nonneg_right (by omega) hp
    rw [List.foldl_cons, List.length_cons, Int.pow_succ, Int.mul_comm (256 ^ r.length) 256, ← Int.mul_assoc]
    omega
theorem beV_lt (l : List UInt8) : beV l < 256 ^ l.length := by
  have := fold_lt l 0
  rw [show (0 : Int) + 1 = 1 by rfl, Int.one_mul] at this
  exact this
theorem tk_len (n : Nat) (s : List UInt8) (e : Int) : (tk n s e).1.length ≤ n := by
  unfold tk
  split
  · split
    · rw [List.length_take]; omega
    · simp
  · simp
/-- A number of so many bytes; what is left; the error. -/
def rdN (k : Nat) (s : List UInt8) (e : Int) : Int × List UInt8 × Int := (wrap64 (beV (tk k s e).1), (tk k s e).2.1, (tk k s e).2.2)
theorem rdN2 (s : List UInt8) (e : Int) : 0 ≤ (rdN 2 s e).1 ∧ (rdN 2 s e).1 ≤ 65535 := by
  have h1 := beV_nonneg (tk 2 s e).1
  have h2 := beV_lt (tk 2 s e).1
  have h3 := tk_len 2 s e
  have h4 : (256 : Int) ^ (tk 2 s e).1.length ≤ 65536 := by
    rcases (show (tk 2 s e).1.length = 0 ∨ (tk 2 s e).1.length = 1 ∨ (tk 2 s e).1.length = 2 by omega) with h | h | h <;> rw [h] <;> decide
  unfold rdN wrap64
  simp only
  omega
theorem rdN1 (s : List UInt8) (e : Int) : 0 ≤ (rdN 1 s e).1 ∧ (rdN 1 s e).1 ≤ 255 := by
  have h1 := beV_nonneg (tk 1 s e).1
  have h2 := beV_lt (tk 1 s e).1
  have h3 := tk_len 1 s e
  have h4 : (256 : Int) ^ (tk 1 s e).1.length ≤ 256 := by
    rcases (show (tk 1 s e).1.length = 0 ∨ (tk 1 s e).1.length = 1 by omega) with h | h <;> rw [h] <;> decide
  unfold rdN wrap64
  simp only
  omega
theorem num_any (q : Nat) (s : ByteArray) (e : Int) (w : World) (h : RBox q s e w) (k : Nat) (hk : k ≤ 1000000) :
    Calls Try.prog 66 #[.pointer (some ⟨q, 0, none⟩), .int .i64 k] w fun en w' => ∃ s', en = .returned (.int .i64 (rdN k (L s) e).1) ∧ L s' = (rdN k (L s) e).2.1 ∧ RBox q s' (rdN k (L s) e).2.2 w' ∧ Upd q w w' := number_any q s e w h k hk
set_option maxRecDepth 1000000 in
set_option maxHeartbeats 3200000 in
theorem link_any (q : Nat) (s : ByteArray) (e : Int) (w : World) (h : RBox q s e w) :
    Calls Try.prog 67 #[.pointer (some ⟨q, 0, none⟩)] w fun en w' => ∃ s', en = .returned (.int .i64 (rdN 2 (L s) e).1) ∧ L s' = (rdN 2 (L s) e).2.1 ∧ RBox q s' (rdN 2 (L s) e).2.2 w' ∧ Upd q w w' := by
  have HN := Lib.hid (num_any q s e w h 2 (by omega))
  clear h
  generalize rdN 2 (L s) e = T at *
  go_enter Try.func67, Try.ntmps67
  go_wp2_with fail
  refine (HN.out).mono ?_
  rintro en w1 ⟨s1, rfl, hs1, hr, hu⟩
  have HS1 := Lib.hid hs1
  have R1 := Lib.hid hr
  have U1 := Lib.hid hu
  clear hs1 hr hu
  go_wp2
  go_ret
  exact ⟨_, rfl, HS1.out, R1.out, U1.out⟩
/-- A text with its length in two bytes ahead of it. -/
def rdT (s : List UInt8) (e : Int) : List UInt8 × List UInt8 × Int := tk (rdN 2 s e).1.toNat (rdN 2 s e).2.1 (rdN 2 s e).2.2
set_option maxRecDepth 1000000 in
set_option maxHeartbeats 3200000 in
theorem text_any (q : Nat) (s : ByteArray) (e : Int) (w : World) (h : RBox q s e w) :
    Calls Try.prog 98 #[.pointer (some ⟨q, 0, none⟩)] w fun en w' => ∃ t s', en = .returned (.string t) ∧ L t = (rdT (L s) e).1 ∧ L s' = (rdT (L s) e).2.1 ∧ RBox q s' (rdT (L s) e).2.2 w' ∧ Upd q w w' := by
  have HN := Lib.hid (num_any q s e w h 2 (by omega))
  obtain ⟨hb1, hb2⟩ := rdN2 (L s) e
  have HD := Lib.hid (show rdT (L s) e = tk (rdN 2 (L s) e).1.toNat (rdN 2 (L s) e).2.1 (rdN 2 (L s) e).2.2 from rfl)
  clear h
  generalize rdT (L s) e = D at *
  generalize rdN 2 (L s) e = T at *
  obtain ⟨T1, T2, T3⟩ := T
  simp only at HN HD hb1 hb2
  obtain ⟨n, rfl⟩ : ∃ n : Nat, T1 = n := ⟨T1.toNat, by omega⟩
  have HD2 := Lib.hid (show D = tk n T2 T3 from by rw [HD.out]; rfl)
  clear HD
  go_enter Try.func98, Try.ntmps98
  go_wp2_with fail
  refine (HN.out).mono ?_
  rintro en w1 ⟨s1, rfl, hs1, hr, hu⟩
  have HT := Lib.hid (take_any q s1 T3 w1 hr n (by omega))
  have HS1 := Lib.hid hs1
  have U1 := Lib.hid hu
  clear hs1 hr hu
  go_wp2_with fail
  refine (HT.out).mono ?_
  rintro en w2 ⟨t, s2, rfl, ht, hs2, hr, hu⟩
  have HA := Lib.hid ht
  have HB := Lib.hid hs2
  have R2 := Lib.hid hr
  have U2 := Lib.hid (U1.out.trans hu)
  clear ht hs2 hr hu
  go_wp2
  go_ret
  refine ⟨t, s2, rfl, ?_, ?_, ?_, U2.out⟩
  · rw [HD2.out, ← HS1.out]; exact HA.out
  · rw [HD2.out, ← HS1.out]; exact HB.out
  · rw [HD2.out, ← HS1.out]; exact R2.out
/-- A name: what its bytes say; what is left; the error. -/
def rdM (s : List UInt8) (e : Int) : List UInt8 × List UInt8 × Int := (decA (rdT s e).1, (rdT s e).2.1, failE (rdT s e).2.2 (decE (rdT s e).1))
theorem failE_zero (e : Int) : failE e 0 = e := by unfold failE; split <;> simp_all
set_option maxRecDepth 1000000 in
set_option maxHeartbeats 3200000 in
theorem name_any (q : Nat) (s : ByteArray) (e : Int) (w : World) (h : RBox q s e w) :
    Calls Try.prog 96 #[.pointer (some ⟨q, 0, none⟩)] w fun en w' => ∃ t s', en = .returned (.string t) ∧ L t = (rdM (L s) e).1 ∧ L s' = (rdM (L s) e).2.1 ∧ RBox q s' (rdM (L s) e).2.2 w' ∧ Upd q w w' := by
  have HT := Lib.hid (text_any q s e w h)
  have HM := Lib.hid (show rdM (L s) e = (decA (rdT (L s) e).1, (rdT (L s) e).2.1, failE (rdT (L s) e).2.2 (decE (rdT (L s) e).1)) from rfl)
  clear h
  generalize rdM (L s) e = M at *
  generalize rdT (L s) e = T at *
  obtain ⟨T1, T2, T3⟩ := T
  simp only at HT HM
  have HD := Lib.hid (fun t W => Decode_any t W)
  obtain ⟨D, hD⟩ : ∃ D, decA T1 = D := ⟨_, rfl⟩
  obtain ⟨E, hE⟩ : ∃ E, decE T1 = E := ⟨_, rfl⟩
  have HDE := Lib.hid (And.intro hD hE)
  rw [hD, hE] at HM
  clear hD hE
  by_cases he : E = 0
  · subst he
    rw [failE_zero] at HM
    go_enter Try.func96, Try.ntmps96
    go_wp2_with fail
    refine (HT.out).mono ?_
    rintro en w1 ⟨t, s1, rfl, ht, hs1, hr, hu⟩
    have HD1 := HD.out t w1
    rw [ht, HDE.out.1, HDE.out.2] at HD1
    have HD2 := Lib.hid HD1
    have HS1 := Lib.hid hs1
    have R1 := Lib.hid hr
    have U1 := Lib.hid hu
    clear ht hs1 hr hu HD1
    go_wp2_with fail
    refine (HD2.out).mono ?_
    rintro en w2 ⟨rfl, hb⟩
    have R2 := Lib.hid (R1.out.below hb)
    have U2 := Lib.hid (U1.out.trans (Upd.of_below hb))
    clear hb
    go_wp2
    go_ret
    exact ⟨mkB D, s1, rfl, by rw [HM.out]; simp [L, mkB], by rw [HM.out]; exact HS1.out, by rw [HM.out]; exact R2.out, U2.out⟩
  · have g1 : (E == 0) = false := by simpa using he
    have g2 : (E != 0) = true := by simpa using he
    clear he
    go_enter Try.func96, Try.ntmps96
    go_wp2_with fail
    refine (HT.out).mono ?_
    rintro en w1 ⟨t, s1, rfl, ht, hs1, hr, hu⟩
    have HD1 := HD.out t w1
    rw [ht, HDE.out.1, HDE.out.2] at HD1
    have HD2 := Lib.hid HD1
    have HS1 := Lib.hid hs1
    have R1 := Lib.hid hr
    have U1 := Lib.hid hu
    clear ht hs1 hr hu HD1
    go_wp2_with fail
    refine (HD2.out).mono ?_
    rintro en w2 ⟨rfl, hb⟩
    have HF := Lib.hid (fail_any q s1 T3 E w2 (R1.out.below hb))
    have U2 := Lib.hid (U1.out.trans (Upd.of_below hb))
    clear hb
    go_wp2_with fail
    refine (HF.out).mono ?_
    rintro en w3 ⟨rfl, hr, hu⟩
    have R3 := Lib.hid hr
    have U3 := Lib.hid (U2.out.trans hu)
    clear hr hu
    go_wp2
    go_ret
    exact ⟨mkB D, s1, rfl, by rw [HM.out]; simp [L, mkB], by rw [HM.out]; exact HS1.out, by rw [HM.out]; exact R3.out, U3.out⟩
theorem RBox.set_ne {q b i : Nat} {s : ByteArray} {e : Int} {u : Value} {w : World} (h : RBox q s e w) (hb : q ≠ b) : RBox q s e (w.setCell ⟨b, i, none⟩ u) := heap_setCell_ne hb h
theorem Upd.set_new {q b i : Nat} {u : Value} {a w : World} (h : Upd q a w) (hb : a.heap.size ≤ b) : Upd q a (w.setCell ⟨b, i, none⟩ u) := ⟨h.os, h.tape, h.output, by simpa [World.setCell] using h.size, fun k hk hn => (Below.heap_setCell _ _ _ _ (by show k ≠ b; omega)).trans (h.block k hk hn)⟩
/-- What a field and a method have in common. -/
def rdH (s : List UInt8) (e : Int) : (Int × Int × Int) × List UInt8 × Int :=
  let a := rdN 1 s e
  let b := rdN 2 a.2.1 a.2.2
  let c := rdN 2 b.2.1 b.2.2
  ((a.1, b.1, c.1), c.2)
set_option maxRecDepth 1000000 in
set_option maxHeartbeats 6400000 in
theorem head_any (q : Nat) (s : ByteArray) (e : Int) (w : World) (h : RBox q s e w) :
    Calls Try.prog 70 #[.pointer (some ⟨q, 0, none⟩)] w fun en w' => ∃ s', en = .returned (.agg #[.int .i64 (rdH (L s) e).1.1, .int .i64 (rdH (L s) e).1.2.1, .int .i64 (rdH (L s) e).1.2.2, .int .i64 0, .int .i64 0, .string ⟨#[]⟩, .slice none 0 0]) ∧ L s' = (rdH (L s) e).2.1 ∧ RBox q s' (rdH (L s) e).2.2 w' ∧ Upd q w w' := by
  have hq := h.lt
  have hne0 : q ≠ w.heap.size := by omega
  have hne1 : q ≠ w.heap.size + 1 := by omega
  have R0 := Lib.hid ((h.alloc (.cells #[.int .i64 0, .int .i64 0, .int .i64 0, .int .i64 0, .int .i64 0, .string ⟨#[]⟩, .slice none 0 0] 38)).alloc (.cells #[.int .i64 0, .int .i64 0, .int .i64 0, .int .i64 0, .int .i64 0, .string ⟨#[]⟩, .slice none 0 0] 38))
  have U0 := Lib.hid (((Upd.refl q w).alloc (.cells #[.int .i64 0, .int .i64 0, .int .i64 0, .int .i64 0, .int .i64 0, .string ⟨#[]⟩, .slice none 0 0] 38)).alloc (.cells #[.int .i64 0, .int .i64 0, .int .i64 0, .int .i64 0, .int .i64 0, .string ⟨#[]⟩, .slice none 0 0] 38))
  have BR0 := Lib.hid (show ((w.alloc (.cells #[.int .i64 0, .int .i64 0, .int .i64 0, .int .i64 0, .int .i64 0, .string ⟨#[]⟩, .slice none 0 0] 38)).alloc (.cells #[.int .i64 0, .int .i64 0, .int .i64 0, .int .i64 0, .int .i64 0, .string ⟨#[]⟩, .slice none 0 0] 38)).heap[w.heap.size]? = some (.cells #[.int .i64 0, .int .i64 0, .int .i64 0, .int .i64 0, .int .i64 0, .string ⟨#[]⟩, .slice none 0 0] 38 (0, 0)) from heap_alloc_lt (heap_new w (.cells #[.int .i64 0, .int .i64 0, .int .i64 0, .int .i64 0, .int .i64 0, .string ⟨#[]⟩, .slice none 0 0] 38)))
  have BM0 := Lib.hid (heap_new2 w (.cells #[.int .i64 0, .int .i64 0, .int .i64 0, .int .i64 0, .int .i64 0, .string ⟨#[]⟩, .slice none 0 0] 38) (.cells #[.int .i64 0, .int .i64 0, .int .i64 0, .int .i64 0, .int .i64 0, .string ⟨#[]⟩, .slice none 0 0] 38))
  clear h
  go_enter Try.func70, Try.ntmps70
  have HC1 := Lib.hid (num_any q s e _ R0.out 1 (by omega))
  go_wp2_with fail
  refine (HC1.out).mono ?_
  rintro en w1 ⟨s1, rfl, hs, hr, hu⟩
  have HS1 := Lib.hid hs
  have hsz := hu.size
  have hszw := Upd.size U0.out
  have BRx := (hu.block w.heap.size (lt_of_block BR0.out) (by omega)).trans BR0.out
  have BMx := (hu.block (w.heap.size + 1) (lt_of_block BM0.out) (by omega)).trans BM0.out
  have hf1 : w1.frozen? ⟨w.heap.size + 1, 0, none⟩ = false := free_of BMx 0
  have m0 := cells_of BMx 0
  have m1 := cells_of BMx 1
  have m2 := cells_of BMx 2
  have m3 := cells_of BMx 3
  have m4 := cells_of BMx 4
  have m5 := cells_of BMx 5
  have m6 := cells_of BMx 6
  have ltm1 := lt_of_block BMx
  have R1 := Lib.hid (hr.set_ne (i := 0) (u := .int .i64 (rdN 1 (L s) e).1) hne1)
  have U1 := Lib.hid ((U0.out.trans hu).set_new (b := w.heap.size + 1) (i := 0) (u := .int .i64 (rdN 1 (L s) e).1) (by omega))
  have BR1 := Lib.hid (show (w1.setCell ⟨w.heap.size + 1, 0, none⟩ (.int .i64 (rdN 1 (L s) e).1)).heap[w.heap.size]? = some (.cells #[.int .i64 0, .int .i64 0, .int .i64 0, .int .i64 0, .int .i64 0, .string ⟨#[]⟩, .slice none 0 0] 38 (0, 0)) from heap_setCell_ne (by show w.heap.size ≠ w.heap.size + 1; omega) BRx)
  have BM1 := Lib.hid (show (w1.setCell ⟨w.heap.size + 1, 0, none⟩ (.int .i64 (rdN 1 (L s) e).1)).heap[w.heap.size + 1]? = some (.cells #[.int .i64 (rdN 1 (L s) e).1, .int .i64 0, .int .i64 0, .int .i64 0, .int .i64 0, .string ⟨#[]⟩, .slice none 0 0] 38 (0, 0)) from heap_set_eq2 BMx)
  clear hs hr hu BRx BMx
  have HC2 := Lib.hid (link_any q s1 (rdN 1 (L s) e).2.2 _ R1.out)
  go_wp2_with fail
  refine (HC2.out).mono ?_
  rintro en w2 ⟨s2, rfl, hs, hr, hu⟩
  have HS2 := Lib.hid hs
  have hsz := hu.size
  have hszw := Upd.size U1.out
  have BRx := (hu.block w.heap.size (lt_of_block BR1.out) (by omega)).trans BR1.out
  have BMx := (hu.block (w.heap.size + 1) (lt_of_block BM1.out) (by omega)).trans BM1.out
  have hf2 : w2.frozen? ⟨w.heap.size + 1, 1, none⟩ = false := free_of BMx 1
  have m0 := cells_of BMx 0
  have m1 := cells_of BMx 1
  have m2 := cells_of BMx 2
  have m3 := cells_of BMx 3
  have m4 := cells_of BMx 4
  have m5 := cells_of BMx 5
  have m6 := cells_of BMx 6
  have ltm2 := lt_of_block BMx
  have R2 := Lib.hid (hr.set_ne (i := 1) (u := .int .i64 (rdN 2 (L s1) (rdN 1 (L s) e).2.2).1) hne1)
  have U2 := Lib.hid ((U1.out.trans hu).set_new (b := w.heap.size + 1) (i := 1) (u := .int .i64 (rdN 2 (L s1) (rdN 1 (L s) e).2.2).1) (by omega))
  have BR2 := Lib.hid (show (w2.setCell ⟨w.heap.size + 1, 1, none⟩ (.int .i64 (rdN 2 (L s1) (rdN 1 (L s) e).2.2).1)).heap[w.heap.size]? = some (.cells #[.int .i64 0, .int .i64 0, .int .i64 0, .int .i64 0, .int .i64 0, .string ⟨#[]⟩, .slice none 0 0] 38 (0, 0)) from heap_setCell_ne (by show w.heap.size ≠ w.heap.size + 1; omega) BRx)
  have BM2 := Lib.hid (show (w2.setCell ⟨w.heap.size + 1, 1, none⟩ (.int .i64 (rdN 2 (L s1) (rdN 1 (L s) e).2.2).1)).heap[w.heap.size + 1]? = some (.cells #[.int .i64 (rdN 1 (L s) e).1, .int .i64 (rdN 2 (L s1) (rdN 1 (L s) e).2.2).1, .int .i64 0, .int .i64 0, .int .i64 0, .string ⟨#[]⟩, .slice none 0 0] 38 (0, 0)) from heap_set_eq2 BMx)
  clear hs hr hu BRx BMx
  have HC3 := Lib.hid (link_any q s2 (rdN 2 (L s1) (rdN 1 (L s) e).2.2).2.2 _ R2.out)
  go_wp2_with fail
  refine (HC3.out).mono ?_
  rintro en w3 ⟨s3, rfl, hs, hr, hu⟩
  have HS3 := Lib.hid hs
  have hsz := hu.size
  have hszw := Upd.size U2.out
  have BRx := (hu.block w.heap.size (lt_of_block BR2.out) (by omega)).trans BR2.out
  have BMx := (hu.block (w.heap.size + 1) (lt_of_block BM2.out) (by omega)).trans BM2.out
  have hf3 : w3.frozen? ⟨w.heap.size + 1, 2, none⟩ = false := free_of BMx 2
  have m0 := cells_of BMx 0
  have m1 := cells_of BMx 1
  have m2 := cells_of BMx 2
  have m3 := cells_of BMx 3
  have m4 := cells_of BMx 4
  have m5 := cells_of BMx 5
  have m6 := cells_of BMx 6
  have r0 := cells_of BRx 0
  have fr0 : w3.frozen? ⟨w.heap.size, 0, none⟩ = false := free_of BRx 0
  have r1 := cells_of BRx 1
  have fr1 : w3.frozen? ⟨w.heap.size, 1, none⟩ = false := free_of BRx 1
  have r2 := cells_of BRx 2
  have fr2 : w3.frozen? ⟨w.heap.size, 2, none⟩ = false := free_of BRx 2
  have r3 := cells_of BRx 3
  have fr3 : w3.frozen? ⟨w.heap.size, 3, none⟩ = false := free_of BRx 3
  have r4 := cells_of BRx 4
  have fr4 : w3.frozen? ⟨w.heap.size, 4, none⟩ = false := free_of BRx 4
  have r5 := cells_of BRx 5
  have fr5 : w3.frozen? ⟨w.heap.size, 5, none⟩ = false := free_of BRx 5
  have r6 := cells_of BRx 6
  have fr6 : w3.frozen? ⟨w.heap.size, 6, none⟩ = false := free_of BRx 6
  have ltr := lt_of_block BRx
  have ltm3 := lt_of_block BMx
  have R3 := Lib.hid (hr.set_ne (i := 2) (u := .int .i64 (rdN 2 (L s2) (rdN 2 (L s1) (rdN 1 (L s) e).2.2).2.2).1) hne1)
  have U3 := Lib.hid ((U2.out.trans hu).set_new (b := w.heap.size + 1) (i := 2) (u := .int .i64 (rdN 2 (L s2) (rdN 2 (L s1) (rdN 1 (L s) e).2.2).2.2).1) (by omega))
  have BR3 := Lib.hid (show (w3.setCell ⟨w.heap.size + 1, 2, none⟩ (.int .i64 (rdN 2 (L s2) (rdN 2 (L s1) (rdN 1 (L s) e).2.2).2.2).1)).heap[w.heap.size]? = some (.cells #[.int .i64 0, .int .i64 0, .int .i64 0, .int .i64 0, .int .i64 0, .string ⟨#[]⟩, .slice none 0 0] 38 (0, 0)) from heap_setCell_ne (by show w.heap.size ≠ w.heap.size + 1; omega) BRx)
  have BM3 := Lib.hid (show (w3.setCell ⟨w.heap.size + 1, 2, none⟩ (.int .i64 (rdN 2 (L s2) (rdN 2 (L s1) (rdN 1 (L s) e).2.2).2.2).1)).heap[w.heap.size + 1]? = some (.cells #[.int .i64 (rdN 1 (L s) e).1, .int .i64 (rdN 2 (L s1) (rdN 1 (L s) e).2.2).1, .int .i64 (rdN 2 (L s2) (rdN 2 (L s1) (rdN 1 (L s) e).2.2).2.2).1, .int .i64 0, .int .i64 0, .string ⟨#[]⟩, .slice none 0 0] 38 (0, 0)) from heap_set_eq2 BMx)
  clear hs hr hu BRx BMx
  go_wp2
  have BV : ((((((((w3.setCell ⟨w.heap.size + 1, 2, none⟩ (.int .i64 (rdN 2 (L s2) (rdN 2 (L s1) (rdN 1 (L s) e).2.2).2.2).1)).setCell ⟨w.heap.size, 0, none⟩ (.int .i64 (rdN 1 (L s) e).1)).setCell ⟨w.heap.size, 1, none⟩ (.int .i64 (rdN 2 (L s1) (rdN 1 (L s) e).2.2).1)).setCell ⟨w.heap.size, 2, none⟩ (.int .i64 (rdN 2 (L s2) (rdN 2 (L s1) (rdN 1 (L s) e).2.2).2.2).1)).setCell ⟨w.heap.size, 3, none⟩ (.int .i64 0)).setCell ⟨w.heap.size, 4, none⟩ (.int .i64 0)).setCell ⟨w.heap.size, 5, none⟩ (.string ⟨#[]⟩)).setCell ⟨w.heap.size, 6, none⟩ (.slice none 0 0)).heap[w.heap.size]? = some (.cells #[.int .i64 (rdN 1 (L s) e).1, .int .i64 (rdN 2 (L s1) (rdN 1 (L s) e).2.2).1, .int .i64 (rdN 2 (L s2) (rdN 2 (L s1) (rdN 1 (L s) e).2.2).2.2).1, .int .i64 0, .int .i64 0, .string ⟨#[]⟩, .slice none 0 0] 38 (0, 0)) := (heap_set_eq2 (i := 6) (u := .slice none 0 0) (heap_set_eq2 (i := 5) (u := .string ⟨#[]⟩) (heap_set_eq2 (i := 4) (u := .int .i64 0) (heap_set_eq2 (i := 3) (u := .int .i64 0) (heap_set_eq2 (i := 2) (u := .int .i64 (rdN 2 (L s2) (rdN 2 (L s1) (rdN 1 (L s) e).2.2).2.2).1) (heap_set_eq2 (i := 1) (u := .int .i64 (rdN 2 (L s1) (rdN 1 (L s) e).2.2).1) (heap_set_eq2 (i := 0) (u := .int .i64 (rdN 1 (L s) e).1) BR3.out)))))))
  have t0 : ((((((((w3.setCell ⟨w.heap.size + 1, 2, none⟩ (.int .i64 (rdN 2 (L s2) (rdN 2 (L s1) (rdN 1 (L s) e).2.2).2.2).1)).setCell ⟨w.heap.size, 0, none⟩ (.int .i64 (rdN 1 (L s) e).1)).setCell ⟨w.heap.size, 1, none⟩ (.int .i64 (rdN 2 (L s1) (rdN 1 (L s) e).2.2).1)).setCell ⟨w.heap.size, 2, none⟩ (.int .i64 (rdN 2 (L s2) (rdN 2 (L s1) (rdN 1 (L s) e).2.2).2.2).1)).setCell ⟨w.heap.size, 3, none⟩ (.int .i64 0)).setCell ⟨w.heap.size, 4, none⟩ (.int .i64 0)).setCell ⟨w.heap.size, 5, none⟩ (.string ⟨#[]⟩)).setCell ⟨w.heap.size, 6, none⟩ (.slice none 0 0)).cell? ⟨w.heap.size, 0, none⟩ = some (.int .i64 (rdN 1 (L s) e).1) := cells_of BV 0
  have t1 : ((((((((w3.setCell ⟨w.heap.size + 1, 2, none⟩ (.int .i64 (rdN 2 (L s2) (rdN 2 (L s1) (rdN 1 (L s) e).2.2).2.2).1)).setCell ⟨w.heap.size, 0, none⟩ (.int .i64 (rdN 1 (L s) e).1)).setCell ⟨w.heap.size, 1, none⟩ (.int .i64 (rdN 2 (L s1) (rdN 1 (L s) e).2.2).1)).setCell ⟨w.heap.size, 2, none⟩ (.int .i64 (rdN 2 (L s2) (rdN 2 (L s1) (rdN 1 (L s) e).2.2).2.2).1)).setCell ⟨w.heap.size, 3, none⟩ (.int .i64 0)).setCell ⟨w.heap.size, 4, none⟩ (.int .i64 0)).setCell ⟨w.heap.size, 5, none⟩ (.string ⟨#[]⟩)).setCell ⟨w.heap.size, 6, none⟩ (.slice none 0 0)).cell? ⟨w.heap.size, 1, none⟩ = some (.int .i64 (rdN 2 (L s1) (rdN 1 (L s) e).2.2).1) := cells_of BV 1
  have t2 : ((((((((w3.setCell ⟨w.heap.size + 1, 2, none⟩ (.int .i64 (rdN 2 (L s2) (rdN 2 (L s1) (rdN 1 (L s) e).2.2).2.2).1)).setCell ⟨w.heap.size, 0, none⟩ (.int .i64 (rdN 1 (L s) e).1)).setCell ⟨w.heap.size, 1, none⟩ (.int .i64 (rdN 2 (L s1) (rdN 1 (L s) e).2.2).1)).setCell ⟨w.heap.size, 2, none⟩ (.int .i64 (rdN 2 (L s2) (rdN 2 (L s1) (rdN 1 (L s) e).2.2).2.2).1)).setCell ⟨w.heap.size, 3, none⟩ (.int .i64 0)).setCell ⟨w.heap.size, 4, none⟩ (.int .i64 0)).setCell ⟨w.heap.size, 5, none⟩ (.string ⟨#[]⟩)).setCell ⟨w.heap.size, 6, none⟩ (.slice none 0 0)).cell? ⟨w.heap.size, 2, none⟩ = some (.int .i64 (rdN 2 (L s2) (rdN 2 (L s1) (rdN 1 (L s) e).2.2).2.2).1) := cells_of BV 2
  have t3 : ((((((((w3.setCell ⟨w.heap.size + 1, 2, none⟩ (.int .i64 (rdN 2 (L s2) (rdN 2 (L s1) (rdN 1 (L s) e).2.2).2.2).1)).setCell ⟨w.heap.size, 0, none⟩ (.int .i64 (rdN 1 (L s) e).1)).setCell ⟨w.heap.size, 1, none⟩ (.int .i64 (rdN 2 (L s1) (rdN 1 (L s) e).2.2).1)).setCell ⟨w.heap.size, 2, none⟩ (.int .i64 (rdN 2 (L s2) (rdN 2 (L s1) (rdN 1 (L s) e).2.2).2.2).1)).setCell ⟨w.heap.size, 3, none⟩ (.int .i64 0)).setCell ⟨w.heap.size, 4, none⟩ (.int .i64 0)).setCell ⟨w.heap.size, 5, none⟩ (.string ⟨#[]⟩)).setCell ⟨w.heap.size, 6, none⟩ (.slice none 0 0)).cell? ⟨w.heap.size, 3, none⟩ = some (.int .i64 0) := cells_of BV 3
  have t4 : ((((((((w3.setCell ⟨w.heap.size + 1, 2, none⟩ (.int .i64 (rdN 2 (L s2) (rdN 2 (L s1) (rdN 1 (L s) e).2.2).2.2).1)).setCell ⟨w.heap.size, 0, none⟩ (.int .i64 (rdN 1 (L s) e).1)).setCell ⟨w.heap.size, 1, none⟩ (.int .i64 (rdN 2 (L s1) (rdN 1 (L s) e).2.2).1)).setCell ⟨w.heap.size, 2, none⟩ (.int .i64 (rdN 2 (L s2) (rdN 2 (L s1) (rdN 1 (L s) e).2.2).2.2).1)).setCell ⟨w.heap.size, 3, none⟩ (.int .i64 0)).setCell ⟨w.heap.size, 4, none⟩ (.int .i64 0)).setCell ⟨w.heap.size, 5, none⟩ (.string ⟨#[]⟩)).setCell ⟨w.heap.size, 6, none⟩ (.slice none 0 0)).cell? ⟨w.heap.size, 4, none⟩ = some (.int .i64 0) := cells_of BV 4
  have t5 : ((((((((w3.setCell ⟨w.heap.size + 1, 2, none⟩ (.int .i64 (rdN 2 (L s2) (rdN 2 (L s1) (rdN 1 (L s) e).2.2).2.2).1)).setCell ⟨w.heap.size, 0, none⟩ (.int .i64 (rdN 1 (L s) e).1)).setCell ⟨w.heap.size, 1, none⟩ (.int .i64 (rdN 2 (L s1) (rdN 1 (L s) e).2.2).1)).setCell ⟨w.heap.size, 2, none⟩ (.int .i64 (rdN 2 (L s2) (rdN 2 (L s1) (rdN 1 (L s) e).2.2).2.2).1)).setCell ⟨w.heap.size, 3, none⟩ (.int .i64 0)).setCell ⟨w.heap.size, 4, none⟩ (.int .i64 0)).setCell ⟨w.heap.size, 5, none⟩ (.string ⟨#[]⟩)).setCell ⟨w.heap.size, 6, none⟩ (.slice none 0 0)).cell? ⟨w.heap.size, 5, none⟩ = some (.string ⟨#[]⟩) := cells_of BV 5
  have t6 : ((((((((w3.setCell ⟨w.heap.size + 1, 2, none⟩ (.int .i64 (rdN 2 (L s2) (rdN 2 (L s1) (rdN 1 (L s) e).2.2).2.2).1)).setCell ⟨w.heap.size, 0, none⟩ (.int .i64 (rdN 1 (L s) e).1)).setCell ⟨w.heap.size, 1, none⟩ (.int .i64 (rdN 2 (L s1) (rdN 1 (L s) e).2.2).1)).setCell ⟨w.heap.size, 2, none⟩ (.int .i64 (rdN 2 (L s2) (rdN 2 (L s1) (rdN 1 (L s) e).2.2).2.2).1)).setCell ⟨w.heap.size, 3, none⟩ (.int .i64 0)).setCell ⟨w.heap.size, 4, none⟩ (.int .i64 0)).setCell ⟨w.heap.size, 5, none⟩ (.string ⟨#[]⟩)).setCell ⟨w.heap.size, 6, none⟩ (.slice none 0 0)).cell? ⟨w.heap.size, 6, none⟩ = some (.slice none 0 0) := cells_of BV 6
  refine bodyPost_ret (v := .agg #[.int .i64 (rdN 1 (L s) e).1, .int .i64 (rdN 2 (L s1) (rdN 1 (L s) e).2.2).1, .int .i64 (rdN 2 (L s2) (rdN 2 (L s1) (rdN 1 (L s) e).2.2).2.2).1, .int .i64 0, .int .i64 0, .string ⟨#[]⟩, .slice none 0 0]) (by simp [results, Try.results70, go_sem, t0, t1, t2, t3, t4, t5, t6]) rfl ⟨s3, ?_, ?_, ?_, (((((((U3.out.set_new (Nat.le_refl _)).set_new (Nat.le_refl _)).set_new (Nat.le_refl _)).set_new (Nat.le_refl _)).set_new (Nat.le_refl _)).set_new (Nat.le_refl _)).set_new (Nat.le_refl _))⟩
  · simp only [rdH]
    rw [← HS1.out, ← HS2.out]
  · simp only [rdH]
    rw [← HS1.out, ← HS2.out]
    exact HS3.out
  · simp only [rdH]
    rw [← HS1.out, ← HS2.out]
    exact (((((((R3.out.set_ne hne0).set_ne hne0).set_ne hne0).set_ne hne0).set_ne hne0).set_ne hne0).set_ne hne0)
/-- A row of an exception table. -/
def rdK (s : List UInt8) (e : Int) : Hd × List UInt8 × Int :=
  let a := rdN 2 s e
  let b := rdN 2 a.2.1 a.2.2
  let c := rdN 2 b.2.1 b.2.2
  let d := rdN 2 c.2.1 c.2.2
  (⟨a.1, b.1, c.1, d.1⟩, d.2)
set_option maxRecDepth 1000000 in
set_option maxHeartbeats 6400000 in
theorem handler_any (q : Nat) (s : ByteArray) (e : Int) (w : World) (h : RBox q s e w) :
    Calls Try.prog 100 #[.pointer (some ⟨q, 0, none⟩)] w fun en w' => ∃ s', en = .returned (.agg #[.int .i64 (rdK (L s) e).1.fr, .int .i64 (rdK (L s) e).1.to, .int .i64 (rdK (L s) e).1.at_, .int .i64 (rdK (L s) e).1.cl]) ∧ L s' = (rdK (L s) e).2.1 ∧ RBox q s' (rdK (L s) e).2.2 w' ∧ Upd q w w' := by
  have hq := h.lt
  have hne0 : q ≠ w.heap.size := by omega
  have hne1 : q ≠ w.heap.size + 1 := by omega
  have R0 := Lib.hid ((h.alloc (.cells #[.int .i64 0, .int .i64 0, .int .i64 0, .int .i64 0] 76)).alloc (.cells #[.int .i64 0, .int .i64 0, .int .i64 0, .int .i64 0] 76))
  have U0 := Lib.hid (((Upd.refl q w).alloc (.cells #[.int .i64 0, .int .i64 0, .int .i64 0, .int .i64 0] 76)).alloc (.cells #[.int .i64 0, .int .i64 0, .int .i64 0, .int .i64 0] 76))
  have BR0 := Lib.hid (show ((w.alloc (.cells #[.int .i64 0, .int .i64 0, .int .i64 0, .int .i64 0] 76)).alloc (.cells #[.int .i64 0, .int .i64 0, .int .i64 0, .int .i64 0] 76)).heap[w.heap.size]? = some (.cells #[.int .i64 0, .int .i64 0, .int .i64 0, .int .i64 0] 76 (0, 0)) from heap_alloc_lt (heap_new w (.cells #[.int .i64 0, .int .i64 0, .int .i64 0, .int .i64 0] 76)))
  have BM0 := Lib.hid (heap_new2 w (.cells #[.int .i64 0, .int .i64 0, .int .i64 0, .int .i64 0] 76) (.cells #[.int .i64 0, .int .i64 0, .int .i64 0, .int .i64 0] 76))
  clear h
  go_enter Try.func100, Try.ntmps100
  have HC1 := Lib.hid (link_any q s e _ R0.out)
  go_wp2_with fail
  refine (HC1.out).mono ?_
  rintro en w1 ⟨s1, rfl, hs, hr, hu⟩
  have HS1 := Lib.hid hs
  have hsz := hu.size
  have hszw := Upd.size U0.out
  have BRx := (hu.block w.heap.size (lt_of_block BR0.out) (by omega)).trans BR0.out
  have BMx := (hu.block (w.heap.size + 1) (lt_of_block BM0.out) (by omega)).trans BM0.out
  have hf1 : w1.frozen? ⟨w.heap.size + 1, 0, none⟩ = false := free_of BMx 0
  have m0 := cells_of BMx 0
  have m1 := cells_of BMx 1
  have m2 := cells_of BMx 2
  have m3 := cells_of BMx 3
  have ltm1 := lt_of_block BMx
  have R1 := Lib.hid (hr.set_ne (i := 0) (u := .int .i64 (rdN 2 (L s) e).1) hne1)
  have U1 := Lib.hid ((U0.out.trans hu).set_new (b := w.heap.size + 1) (i := 0) (u := .int .i64 (rdN 2 (L s) e).1) (by omega))
  have BR1 := Lib.hid (show (w1.setCell ⟨w.heap.size + 1, 0, none⟩ (.int .i64 (rdN 2 (L s) e).1)).heap[w.heap.size]? = some (.cells #[.int .i64 0, .int .i64 0, .int .i64 0, .int .i64 0] 76 (0, 0)) from heap_setCell_ne (by show w.heap.size ≠ w.heap.size + 1; omega) BRx)
  have BM1 := Lib.hid (show (w1.setCell ⟨w.heap.size + 1, 0, none⟩ (.int .i64 (rdN 2 (L s) e).1)).heap[w.heap.size + 1]? = some (.cells #[.int .i64 (rdN 2 (L s) e).1, .int .i64 0, .int .i64 0, .int .i64 0] 76 (0, 0)) from heap_set_eq2 BMx)
  clear hs hr hu BRx BMx
  have HC2 := Lib.hid (link_any q s1 (rdN 2 (L s) e).2.2 _ R1.out)
  go_wp2_with fail
  refine (HC2.out).mono ?_
  rintro en w2 ⟨s2, rfl, hs, hr, hu⟩
  have HS2 := Lib.hid hs
  have hsz := hu.size
  have hszw := Upd.size U1.out
  have BRx := (hu.block w.heap.size (lt_of_block BR1.out) (by omega)).trans BR1.out
  have BMx := (hu.block (w.heap.size + 1) (lt_of_block BM1.out) (by omega)).trans BM1.out
  have hf2 : w2.frozen? ⟨w.heap.size + 1, 1, none⟩ = false := free_of BMx 1
  have m0 := cells_of BMx 0
  have m1 := cells_of BMx 1
  have m2 := cells_of BMx 2
  have m3 := cells_of BMx 3
  have ltm2 := lt_of_block BMx
  have R2 := Lib.hid (hr.set_ne (i := 1) (u := .int .i64 (rdN 2 (L s1) (rdN 2 (L s) e).2.2).1) hne1)
  have U2 := Lib.hid ((U1.out.trans hu).set_new (b := w.heap.size + 1) (i := 1) (u := .int .i64 (rdN 2 (L s1) (rdN 2 (L s) e).2.2).1) (by omega))
  have BR2 := Lib.hid (show (w2.setCell ⟨w.heap.size + 1, 1, none⟩ (.int .i64 (rdN 2 (L s1) (rdN 2 (L s) e).2.2).1)).heap[w.heap.size]? = some (.cells #[.int .i64 0, .int .i64 0, .int .i64 0, .int .i64 0] 76 (0, 0)) from heap_setCell_ne (by show w.heap.size ≠ w.heap.size + 1; omega) BRx)
  have BM2 := Lib.hid (show (w2.setCell ⟨w.heap.size + 1, 1, none⟩ (.int .i64 (rdN 2 (L s1) (rdN 2 (L s) e).2.2).1)).heap[w.heap.size + 1]? = some (.cells #[.int .i64 (rdN 2 (L s) e).1, .int .i64 (rdN 2 (L s1) (rdN 2 (L s) e).2.2).1, .int .i64 0, .int .i64 0] 76 (0, 0)) from heap_set_eq2 BMx)
  clear hs hr hu BRx BMx
  have HC3 := Lib.hid (link_any q s2 (rdN 2 (L s1) (rdN 2 (L s) e).2.2).2.2 _ R2.out)
  go_wp2_with fail
  refine (HC3.out).mono ?_
  rintro en w3 ⟨s3, rfl, hs, hr, hu⟩
  have HS3 := Lib.hid hs
  have hsz := hu.size
  have hszw := Upd.size U2.out
  have BRx := (hu.block w.heap.size (lt_of_block BR2.out) (by omega)).trans BR2.out
  have BMx := (hu.block (w.heap.size + 1) (lt_of_block BM2.out) (by omega)).trans BM2.out
  have hf3 : w3.frozen? ⟨w.heap.size + 1, 2, none⟩ = false := free_of BMx 2
  have m0 := cells_of BMx 0
  have m1 := cells_of BMx 1
  have m2 := cells_of BMx 2
  have m3 := cells_of BMx 3
  have ltm3 := lt_of_block BMx
  have R3 := Lib.hid (hr.set_ne (i := 2) (u := .int .i64 (rdN 2 (L s2) (rdN 2 (L s1) (rdN 2 (L s) e).2.2).2.2).1) hne1)
  have U3 := Lib.hid ((U2.out.trans hu).set_new (b := w.heap.size + 1) (i := 2) (u := .int .i64 (rdN 2 (L s2) (rdN 2 (L s1) (rdN 2 (L s) e).2.2).2.2).1) (by omega))
  have BR3 := Lib.hid (show (w3.setCell ⟨w.heap.size + 1, 2, none⟩ (.int .i64 (rdN 2 (L s2) (rdN 2 (L s1) (rdN 2 (L s) e).2.2).2.2).1)).heap[w.heap.size]? = some (.cells #[.int .i64 0, .int .i64 0, .int .i64 0, .int .i64 0] 76 (0, 0)) from heap_setCell_ne (by show w.heap.size ≠ w.heap.size + 1; omega) BRx)
  have BM3 := Lib.hid (show (w3.setCell ⟨w.heap.size + 1, 2, none⟩ (.int .i64 (rdN 2 (L s2) (rdN 2 (L s1) (rdN 2 (L s) e).2.2).2.2).1)).heap[w.heap.size + 1]? = some (.cells #[.int .i64 (rdN 2 (L s) e).1, .int .i64 (rdN 2 (L s1) (rdN 2 (L s) e).2.2).1, .int .i64 (rdN 2 (L s2) (rdN 2 (L s1) (rdN 2 (L s) e).2.2).2.2).1, .int .i64 0] 76 (0, 0)) from heap_set_eq2 BMx)
  clear hs hr hu BRx BMx
  have HC4 := Lib.hid (link_any q s3 (rdN 2 (L s2) (rdN 2 (L s1) (rdN 2 (L s) e).2.2).2.2).2.2 _ R3.out)
  go_wp2_with fail
  refine (HC4.out).mono ?_
  rintro en w4 ⟨s4, rfl, hs, hr, hu⟩
  have HS4 := Lib.hid hs
  have hsz := hu.size
  have hszw := Upd.size U3.out
  have BRx := (hu.block w.heap.size (lt_of_block BR3.out) (by omega)).trans BR3.out
  have BMx := (hu.block (w.heap.size + 1) (lt_of_block BM3.out) (by omega)).trans BM3.out
  have hf4 : w4.frozen? ⟨w.heap.size + 1, 3, none⟩ = false := free_of BMx 3
  have m0 := cells_of BMx 0
  have m1 := cells_of BMx 1
  have m2 := cells_of BMx 2
  have m3 := cells_of BMx 3
  have r0 := cells_of BRx 0
  have fr0 : w4.frozen? ⟨w.heap.size, 0, none⟩ = false := free_of BRx 0
  have r1 := cells_of BRx 1
  have fr1 : w4.frozen? ⟨w.heap.size, 1, none⟩ = false := free_of BRx 1
  have r2 := cells_of BRx 2
  have fr2 : w4.frozen? ⟨w.heap.size, 2, none⟩ = false := free_of BRx 2
  have r3 := cells_of BRx 3
  have fr3 : w4.frozen? ⟨w.heap.size, 3, none⟩ = false := free_of BRx 3
  have ltr := lt_of_block BRx
  have ltm4 := lt_of_block BMx
  have R4 := Lib.hid (hr.set_ne (i := 3) (u := .int .i64 (rdN 2 (L s3) (rdN 2 (L s2) (rdN 2 (L s1) (rdN 2 (L s) e).2.2).2.2).2.2).1) hne1)
  have U4 := Lib.hid ((U3.out.trans hu).set_new (b := w.heap.size + 1) (i := 3) (u := .int .i64 (rdN 2 (L s3) (rdN 2 (L s2) (rdN 2 (L s1) (rdN 2 (L s) e).2.2).2.2).2.2).1) (by omega))
  have BR4 := Lib.hid (show (w4.setCell ⟨w.heap.size + 1, 3, none⟩ (.int .i64 (rdN 2 (L s3) (rdN 2 (L s2) (rdN 2 (L s1) (rdN 2 (L s) e).2.2).2.2).2.2).1)).heap[w.heap.size]? = some (.cells #[.int .i64 0, .int .i64 0, .int .i64 0, .int .i64 0] 76 (0, 0)) from heap_setCell_ne (by show w.heap.size ≠ w.heap.size + 1; omega) BRx)
  have BM4 := Lib.hid (show (w4.setCell ⟨w.heap.size + 1, 3, none⟩ (.int .i64 (rdN 2 (L s3) (rdN 2 (L s2) (rdN 2 (L s1) (rdN 2 (L s) e).2.2).2.2).2.2).1)).heap[w.heap.size + 1]? = some (.cells #[.int .i64 (rdN 2 (L s) e).1, .int .i64 (rdN 2 (L s1) (rdN 2 (L s) e).2.2).1, .int .i64 (rdN 2 (L s2) (rdN 2 (L s1) (rdN 2 (L s) e).2.2).2.2).1, .int .i64 (rdN 2 (L s3) (rdN 2 (L s2) (rdN 2 (L s1) (rdN 2 (L s) e).2.2).2.2).2.2).1] 76 (0, 0)) from heap_set_eq2 BMx)
  clear hs hr hu BRx BMx
  go_wp2
  have BV : (((((w4.setCell ⟨w.heap.size + 1, 3, none⟩ (.int .i64 (rdN 2 (L s3) (rdN 2 (L s2) (rdN 2 (L s1) (rdN 2 (L s) e).2.2).2.2).2.2).1)).setCell ⟨w.heap.size, 0, none⟩ (.int .i64 (rdN 2 (L s) e).1)).setCell ⟨w.heap.size, 1, none⟩ (.int .i64 (rdN 2 (L s1) (rdN 2 (L s) e).2.2).1)).setCell ⟨w.heap.size, 2, none⟩ (.int .i64 (rdN 2 (L s2) (rdN 2 (L s1) (rdN 2 (L s) e).2.2).2.2).1)).setCell ⟨w.heap.size, 3, none⟩ (.int .i64 (rdN 2 (L s3) (rdN 2 (L s2) (rdN 2 (L s1) (rdN 2 (L s) e).2.2).2.2).2.2).1)).heap[w.heap.size]? = some (.cells #[.int .i64 (rdN 2 (L s) e).1, .int .i64 (rdN 2 (L s1) (rdN 2 (L s) e).2.2).1, .int .i64 (rdN 2 (L s2) (rdN 2 (L s1) (rdN 2 (L s) e).2.2).2.2).1, .int .i64 (rdN 2 (L s3) (rdN 2 (L s2) (rdN 2 (L s1) (rdN 2 (L s) e).2.2).2.2).2.2).1] 76 (0, 0)) := (heap_set_eq2 (i := 3) (u := .int .i64 (rdN 2 (L s3) (rdN 2 (L s2) (rdN 2 (L s1) (rdN 2 (L s) e).2.2).2.2).2.2).1) (heap_set_eq2 (i := 2) (u := .int .i64 (rdN 2 (L s2) (rdN 2 (L s1) (rdN 2 (L s) e).2.2).2.2).1) (heap_set_eq2 (i := 1) (u := .int .i64 (rdN 2 (L s1) (rdN 2 (L s) e).2.2).1) (heap_set_eq2 (i := 0) (u := .int .i64 (rdN 2 (L s) e).1) BR4.out))))
  have t0 : (((((w4.setCell ⟨w.heap.size + 1, 3, none⟩ (.int .i64 (rdN 2 (L s3) (rdN 2 (L s2) (rdN 2 (L s1) (rdN 2 (L s) e).2.2).2.2).2.2).1)).setCell ⟨w.heap.size, 0, none⟩ (.int .i64 (rdN 2 (L s) e).1)).setCell ⟨w.heap.size, 1, none⟩ (.int .i64 (rdN 2 (L s1) (rdN 2 (L s) e).2.2).1)).setCell ⟨w.heap.size, 2, none⟩ (.int .i64 (rdN 2 (L s2) (rdN 2 (L s1) (rdN 2 (L s) e).2.2).2.2).1)).setCell ⟨w.heap.size, 3, none⟩ (.int .i64 (rdN 2 (L s3) (rdN 2 (L s2) (rdN 2 (L s1) (rdN 2 (L s) e).2.2).2.2).2.2).1)).cell? ⟨w.heap.size, 0, none⟩ = some (.int .i64 (rdN 2 (L s) e).1) := cells_of BV 0
  have t1 : (((((w4.setCell ⟨w.heap.size + 1, 3, none⟩ (.int .i64 (rdN 2 (L s3) (rdN 2 (L s2) (rdN 2 (L s1) (rdN 2 (L s) e).2.2).2.2).2.2).1)).setCell ⟨w.heap.size, 0, none⟩ (.int .i64 (rdN 2 (L s) e).1)).setCell ⟨w.heap.size, 1, none⟩ (.int .i64 (rdN 2 (L s1) (rdN 2 (L s) e).2.2).1)).setCell ⟨w.heap.size, 2, none⟩ (.int .i64 (rdN 2 (L s2) (rdN 2 (L s1) (rdN 2 (L s) e).2.2).2.2).1)).setCell ⟨w.heap.size, 3, none⟩ (.int .i64 (rdN 2 (L s3) (rdN 2 (L s2) (rdN 2 (L s1) (rdN 2 (L s) e).2.2).2.2).2.2).1)).cell? ⟨w.heap.size, 1, none⟩ = some (.int .i64 (rdN 2 (L s1) (rdN 2 (L s) e).2.2).1) := cells_of BV 1
  have t2 : (((((w4.setCell ⟨w.heap.size + 1, 3, none⟩ (.int .i64 (rdN 2 (L s3) (rdN 2 (L s2) (rdN 2 (L s1) (rdN 2 (L s) e).2.2).2.2).2.2).1)).setCell ⟨w.heap.size, 0, none⟩ (.int .i64 (rdN 2 (L s) e).1)).setCell ⟨w.heap.size, 1, none⟩ (.int .i64 (rdN 2 (L s1) (rdN 2 (L s) e).2.2).1)).setCell ⟨w.heap.size, 2, none⟩ (.int .i64 (rdN 2 (L s2) (rdN 2 (L s1) (rdN 2 (L s) e).2.2).2.2).1)).setCell ⟨w.heap.size, 3, none⟩ (.int .i64 (rdN 2 (L s3) (rdN 2 (L s2) (rdN 2 (L s1) (rdN 2 (L s) e).2.2).2.2).2.2).1)).cell? ⟨w.heap.size, 2, none⟩ = some (.int .i64 (rdN 2 (L s2) (rdN 2 (L s1) (rdN 2 (L s) e).2.2).2.2).1) := cells_of BV 2
  have t3 : (((((w4.setCell ⟨w.heap.size + 1, 3, none⟩ (.int .i64 (rdN 2 (L s3) (rdN 2 (L s2) (rdN 2 (L s1) (rdN 2 (L s) e).2.2).2.2).2.2).1)).setCell ⟨w.heap.size, 0, none⟩ (.int .i64 (rdN 2 (L s) e).1)).setCell ⟨w.heap.size, 1, none⟩ (.int .i64 (rdN 2 (L s1) (rdN 2 (L s) e).2.2).1)).setCell ⟨w.heap.size, 2, none⟩ (.int .i64 (rdN 2 (L s2) (rdN 2 (L s1) (rdN 2 (L s) e).2.2).2.2).1)).setCell ⟨w.heap.size, 3, none⟩ (.int .i64 (rdN 2 (L s3) (rdN 2 (L s2) (rdN 2 (L s1) (rdN 2 (L s) e).2.2).2.2).2.2).1)).cell? ⟨w.heap.size, 3, none⟩ = some (.int .i64 (rdN 2 (L s3) (rdN 2 (L s2) (rdN 2 (L s1) (rdN 2 (L s) e).2.2).2.2).2.2).1) := cells_of BV 3
  refine bodyPost_ret (v := .agg #[.int .i64 (rdN 2 (L s) e).1, .int .i64 (rdN 2 (L s1) (rdN 2 (L s) e).2.2).1, .int .i64 (rdN 2 (L s2) (rdN 2 (L s1) (rdN 2 (L s) e).2.2).2.2).1, .int .i64 (rdN 2 (L s3) (rdN 2 (L s2) (rdN 2 (L s1) (rdN 2 (L s) e).2.2).2.2).2.2).1]) (by simp [results, Try.results100, go_sem, t0, t1, t2, t3]) rfl ⟨s4, ?_, ?_, ?_, ((((U4.out.set_new (Nat.le_refl _)).set_new (Nat.le_refl _)).set_new (Nat.le_refl _)).set_new (Nat.le_refl _))⟩
  · simp only [rdK]
    rw [← HS1.out, ← HS2.out, ← HS3.out]
  · simp only [rdK]
    rw [← HS1.out, ← HS2.out, ← HS3.out]
    exact HS4.out
  · simp only [rdK]
    rw [← HS1.out, ← HS2.out, ← HS3.out]
    exact ((((R4.out.set_ne hne0).set_ne hne0).set_ne hne0).set_ne hne0)
/-- A constant. -/
def rdC (s : List UInt8) (e : Int) : Cn × List UInt8 × Int :=
  let a := rdN 1 s e
  if a.1 = 1 then (let m := rdM a.2.1 a.2.2; (⟨a.1, mkB m.1, 0, 0, 0, 0⟩, m.2))
  else if a.1 = 2 then (let m := rdN 8 a.2.1 a.2.2; (⟨a.1, ⟨#[]⟩, m.1, 0, 0, 0⟩, m.2))
  else if a.1 = 3 ∨ a.1 = 4 ∨ a.1 = 7 then (let m := rdN 2 a.2.1 a.2.2; (⟨a.1, ⟨#[]⟩, 0, m.1, 0, 0⟩, m.2))
  else if a.1 = 5 ∨ a.1 = 6 then
    (let m := rdN 2 a.2.1 a.2.2
     let n := rdN 2 m.2.1 m.2.2
     let o := rdN 2 n.2.1 n.2.2
     (⟨a.1, ⟨#[]⟩, 0, m.1, n.1, o.1⟩, o.2))
  else (⟨a.1, ⟨#[]⟩, 0, 0, 0, 0⟩, a.2.1, failE a.2.2 4)
theorem rdC_of {s : List UInt8} {e a1 : Int} {a2 : List UInt8} {a3 : Int} (h : rdN 1 s e = (a1, a2, a3)) : rdC s e = if a1 = 1 then ((⟨a1, mkB (rdM a2 a3).1, 0, 0, 0, 0⟩ : Cn), (rdM a2 a3).2)
    else if a1 = 2 then (⟨a1, ⟨#[]⟩, (rdN 8 a2 a3).1, 0, 0, 0⟩, (rdN 8 a2 a3).2)
    else if a1 = 3 ∨ a1 = 4 ∨ a1 = 7 then (⟨a1, ⟨#[]⟩, 0, (rdN 2 a2 a3).1, 0, 0⟩, (rdN 2 a2 a3).2)
    else if a1 = 5 ∨ a1 = 6 then (⟨a1, ⟨#[]⟩, 0, (rdN 2 a2 a3).1, (rdN 2 (rdN 2 a2 a3).2.1 (rdN 2 a2 a3).2.2).1, (rdN 2 (rdN 2 (rdN 2 a2 a3).2.1 (rdN 2 a2 a3).2.2).2.1 (rdN 2 (rdN 2 a2 a3).2.1 (rdN 2 a2 a3).2.2).2.2).1⟩,
      (rdN 2 (rdN 2 (rdN 2 a2 a3).2.1 (rdN 2 a2 a3).2.2).2.1 (rdN 2 (rdN 2 a2 a3).2.1 (rdN 2 a2 a3).2.2).2.2).2)
    else (⟨a1, ⟨#[]⟩, 0, 0, 0, 0⟩, a2, failE a3 4) := by
  unfold rdC
  rw [h]
set_option maxRecDepth 1000000 in
set_option maxHeartbeats 6400000 in
theorem constant_any (q : Nat) (s : ByteArray) (e : Int) (w : World) (h : RBox q s e w) :
    Calls Try.prog 65 #[.pointer (some ⟨q, 0, none⟩)] w fun en w' => ∃ s', en = .returned (constV (rdC (L s) e).1) ∧ L s' = (rdC (L s) e).2.1 ∧ RBox q s' (rdC (L s) e).2.2 w' ∧ Upd q w w' := by
  have hq := h.lt
  have hne0 : q ≠ w.heap.size := by omega
  have HC1 := Lib.hid (num_any q s e _ (h.alloc (.cells #[.int .i64 0, .string ⟨#[]⟩, .int .i64 0, .int .i64 0, .int .i64 0, .int .i64 0] 47)) 1 (by omega))
  have U0 := Lib.hid ((Upd.refl q w).alloc (.cells #[.int .i64 0, .string ⟨#[]⟩, .int .i64 0, .int .i64 0, .int .i64 0, .int .i64 0] 47))
  have BR0 := Lib.hid (heap_new w (.cells #[.int .i64 0, .string ⟨#[]⟩, .int .i64 0, .int .i64 0, .int .i64 0, .int .i64 0] 47))
  obtain ⟨hb1, hb2⟩ := rdN1 (L s) e
  clear h
  obtain ⟨⟨T1, T2, T3⟩, hT⟩ : ∃ T, rdN 1 (L s) e = T := ⟨_, rfl⟩
  have HDD := Lib.hid (rdC_of hT)
  rw [hT] at HC1 hb1 hb2
  generalize rdC (L s) e = D at *
  clear hT
  simp only at HC1 hb1 hb2
  have hcase : T1 = 1 ∨ T1 = 2 ∨ T1 = 3 ∨ T1 = 4 ∨ T1 = 7 ∨ T1 = 5 ∨ T1 = 6 ∨ (T1 ≠ 1 ∧ T1 ≠ 2 ∧ T1 ≠ 3 ∧ T1 ≠ 4 ∧ T1 ≠ 7 ∧ T1 ≠ 5 ∧ T1 ≠ 6) := by omega
  clear hb1 hb2
  rcases hcase with rfl | rfl | rfl | rfl | rfl | rfl | rfl | ⟨h1, h2, h3, h4, h7, h5, h6⟩
  · go_enter Try.func65, Try.ntmps65
    go_wp2_with fail
    refine (HC1.out).mono ?_
    rintro en w1 ⟨s1, rfl, hs1, hr, hu⟩
    have hsz1 := hu.size
    have hq1 := hr.lt
    have hlt1 : w.heap.size < w1.heap.size := by have := hu.size; simp at this; omega
    have hne1 : q ≠ w1.heap.size := by omega
    have HS1 := Lib.hid hs1
    have R1 := Lib.hid (hr.alloc (.cells #[.int .i64 1, .string ⟨#[]⟩, .int .i64 0, .int .i64 0, .int .i64 0, .int .i64 0] 47))
    have U1 := Lib.hid ((U0.out.trans hu).alloc (.cells #[.int .i64 1, .string ⟨#[]⟩, .int .i64 0, .int .i64 0, .int .i64 0, .int .i64 0] 47))
    have BRy := (hu.block w.heap.size (lt_of_block BR0.out) (by omega)).trans BR0.out
    have BR1 := Lib.hid (heap_alloc_lt (o := (.cells #[.int .i64 1, .string ⟨#[]⟩, .int .i64 0, .int .i64 0, .int .i64 0, .int .i64 0] 47)) BRy)
    have BM1 := Lib.hid (heap_new w1 (.cells #[.int .i64 1, .string ⟨#[]⟩, .int .i64 0, .int .i64 0, .int .i64 0, .int .i64 0] 47))
    clear hs1 hr hu BRy
    have HC2 := Lib.hid (name_any q s1 T3 _ R1.out)
    go_wp2_with fail
    refine (HC2.out).mono ?_
    rintro en w2 ⟨t2x, s2, rfl, htx, hs, hr, hu⟩
    have BRx := (hu.block w.heap.size (lt_of_block BR1.out) (by omega)).trans BR1.out
    have BMx := (hu.block w1.heap.size (lt_of_block BM1.out) (by omega)).trans BM1.out
    have HS2 := Lib.hid hs
    have HTX := Lib.hid htx
    have hf2 : w2.frozen? ⟨w1.heap.size, 1, none⟩ = false := free_of BMx 1
    have m0 := cells_of BMx 0
    have m1 := cells_of BMx 1
    have m2 := cells_of BMx 2
    have m3 := cells_of BMx 3
    have m4 := cells_of BMx 4
    have m5 := cells_of BMx 5
    have ltm := lt_of_block BMx
    have r0 := cells_of BRx 0
    have fr0 : w2.frozen? ⟨w.heap.size, 0, none⟩ = false := free_of BRx 0
    have r1 := cells_of BRx 1
    have fr1 : w2.frozen? ⟨w.heap.size, 1, none⟩ = false := free_of BRx 1
    have r2 := cells_of BRx 2
    have fr2 : w2.frozen? ⟨w.heap.size, 2, none⟩ = false := free_of BRx 2
    have r3 := cells_of BRx 3
    have fr3 : w2.frozen? ⟨w.heap.size, 3, none⟩ = false := free_of BRx 3
    have r4 := cells_of BRx 4
    have fr4 : w2.frozen? ⟨w.heap.size, 4, none⟩ = false := free_of BRx 4
    have r5 := cells_of BRx 5
    have fr5 : w2.frozen? ⟨w.heap.size, 5, none⟩ = false := free_of BRx 5
    have ltr := lt_of_block BRx
    have R2 := Lib.hid (hr.set_ne (i := 1) (u := .string t2x) hne1)
    have U2 := Lib.hid ((U1.out.trans hu).set_new (b := w1.heap.size) (i := 1) (u := .string t2x) (by omega))
    have BR2 := Lib.hid (show (w2.setCell ⟨w1.heap.size, 1, none⟩ (.string t2x)).heap[w.heap.size]? = some (.cells #[.int .i64 0, .string ⟨#[]⟩, .int .i64 0, .int .i64 0, .int .i64 0, .int .i64 0] 47 (0, 0)) from heap_setCell_ne (by show w.heap.size ≠ w1.heap.size; omega) BRx)
    have BM2 := Lib.hid (show (w2.setCell ⟨w1.heap.size, 1, none⟩ (.string t2x)).heap[w1.heap.size]? = some (.cells #[.int .i64 1, .string t2x, .int .i64 0, .int .i64 0, .int .i64 0, .int .i64 0] 47 (0, 0)) from heap_set_eq2 BMx)
    clear hs htx hr hu BRx BMx
    have HDF := Lib.hid (show D = (⟨1, t2x, 0, 0, 0, 0⟩, L s2, (rdM (L s1) T3).2.2) by rw [HDD.out, ← mkB_L t2x, HTX.out, HS2.out, HS1.out]; rfl)
    go_wp2
    have BV : (((((((w2.setCell ⟨w1.heap.size, 1, none⟩ (.string t2x)).setCell ⟨w.heap.size, 0, none⟩ (.int .i64 1)).setCell ⟨w.heap.size, 1, none⟩ (.string t2x)).setCell ⟨w.heap.size, 2, none⟩ (.int .i64 0)).setCell ⟨w.heap.size, 3, none⟩ (.int .i64 0)).setCell ⟨w.heap.size, 4, none⟩ (.int .i64 0)).setCell ⟨w.heap.size, 5, none⟩ (.int .i64 0)).heap[w.heap.size]? = some (.cells #[.int .i64 1, .string t2x, .int .i64 0, .int .i64 0, .int .i64 0, .int .i64 0] 47 (0, 0)) := (heap_set_eq2 (i := 5) (u := .int .i64 0) (heap_set_eq2 (i := 4) (u := .int .i64 0) (heap_set_eq2 (i := 3) (u := .int .i64 0) (heap_set_eq2 (i := 2) (u := .int .i64 0) (heap_set_eq2 (i := 1) (u := .string t2x) (heap_set_eq2 (i := 0) (u := .int .i64 1) BR2.out))))))
    have t0 : (((((((w2.setCell ⟨w1.heap.size, 1, none⟩ (.string t2x)).setCell ⟨w.heap.size, 0, none⟩ (.int .i64 1)).setCell ⟨w.heap.size, 1, none⟩ (.string t2x)).setCell ⟨w.heap.size, 2, none⟩ (.int .i64 0)).setCell ⟨w.heap.size, 3, none⟩ (.int .i64 0)).setCell ⟨w.heap.size, 4, none⟩ (.int .i64 0)).setCell ⟨w.heap.size, 5, none⟩ (.int .i64 0)).cell? ⟨w.heap.size, 0, none⟩ = some (.int .i64 1) := cells_of BV 0
    have t1 : (((((((w2.setCell ⟨w1.heap.size, 1, none⟩ (.string t2x)).setCell ⟨w.heap.size, 0, none⟩ (.int .i64 1)).setCell ⟨w.heap.size, 1, none⟩ (.string t2x)).setCell ⟨w.heap.size, 2, none⟩ (.int .i64 0)).setCell ⟨w.heap.size, 3, none⟩ (.int .i64 0)).setCell ⟨w.heap.size, 4, none⟩ (.int .i64 0)).setCell ⟨w.heap.size, 5, none⟩ (.int .i64 0)).cell? ⟨w.heap.size, 1, none⟩ = some (.string t2x) := cells_of BV 1
    have t2 : (((((((w2.setCell ⟨w1.heap.size, 1, none⟩ (.string t2x)).setCell ⟨w.heap.size, 0, none⟩ (.int .i64 1)).setCell ⟨w.heap.size, 1, none⟩ (.string t2x)).setCell ⟨w.heap.size, 2, none⟩ (.int .i64 0)).setCell ⟨w.heap.size, 3, none⟩ (.int .i64 0)).setCell ⟨w.heap.size, 4, none⟩ (.int .i64 0)).setCell ⟨w.heap.size, 5, none⟩ (.int .i64 0)).cell? ⟨w.heap.size, 2, none⟩ = some (.int .i64 0) := cells_of BV 2
    have t3 : (((((((w2.setCell ⟨w1.heap.size, 1, none⟩ (.string t2x)).setCell ⟨w.heap.size, 0, none⟩ (.int .i64 1)).setCell ⟨w.heap.size, 1, none⟩ (.string t2x)).setCell ⟨w.heap.size, 2, none⟩ (.int .i64 0)).setCell ⟨w.heap.size, 3, none⟩ (.int .i64 0)).setCell ⟨w.heap.size, 4, none⟩ (.int .i64 0)).setCell ⟨w.heap.size, 5, none⟩ (.int .i64 0)).cell? ⟨w.heap.size, 3, none⟩ = some (.int .i64 0) := cells_of BV 3
    have t4 : (((((((w2.setCell ⟨w1.heap.size, 1, none⟩ (.string t2x)).setCell ⟨w.heap.size, 0, none⟩ (.int .i64 1)).setCell ⟨w.heap.size, 1, none⟩ (.string t2x)).setCell ⟨w.heap.size, 2, none⟩ (.int .i64 0)).setCell ⟨w.heap.size, 3, none⟩ (.int .i64 0)).setCell ⟨w.heap.size, 4, none⟩ (.int .i64 0)).setCell ⟨w.heap.size, 5, none⟩ (.int .i64 0)).cell? ⟨w.heap.size, 4, none⟩ = some (.int .i64 0) := cells_of BV 4
    have t5 : (((((((w2.setCell ⟨w1.heap.size, 1, none⟩ (.string t2x)).setCell ⟨w.heap.size, 0, none⟩ (.int .i64 1)).setCell ⟨w.heap.size, 1, none⟩ (.string t2x)).setCell ⟨w.heap.size, 2, none⟩ (.int .i64 0)).setCell ⟨w.heap.size, 3, none⟩ (.int .i64 0)).setCell ⟨w.heap.size, 4, none⟩ (.int .i64 0)).setCell ⟨w.heap.size, 5, none⟩ (.int .i64 0)).cell? ⟨w.heap.size, 5, none⟩ = some (.int .i64 0) := cells_of BV 5
    refine bodyPost_ret (v := .agg #[.int .i64 1, .string t2x, .int .i64 0, .int .i64 0, .int .i64 0, .int .i64 0]) (by simp [results, Try.results65, go_sem, t0, t1, t2, t3, t4, t5]) rfl ⟨s2, by rw [HDF.out]; rfl, by rw [HDF.out], by rw [HDF.out]; exact ((((((R2.out.set_ne hne0).set_ne hne0).set_ne hne0).set_ne hne0).set_ne hne0).set_ne hne0), ((((((U2.out.set_new (Nat.le_refl _)).set_new (Nat.le_refl _)).set_new (Nat.le_refl _)).set_new (Nat.le_refl _)).set_new (Nat.le_refl _)).set_new (Nat.le_refl _))⟩
  · go_enter Try.func65, Try.ntmps65
    go_wp2_with fail
    refine (HC1.out).mono ?_
    rintro en w1 ⟨s1, rfl, hs1, hr, hu⟩
    have hsz1 := hu.size
    have hq1 := hr.lt
    have hlt1 : w.heap.size < w1.heap.size := by have := hu.size; simp at this; omega
    have hne1 : q ≠ w1.heap.size := by omega
    have HS1 := Lib.hid hs1
    have R1 := Lib.hid (hr.alloc (.cells #[.int .i64 2, .string ⟨#[]⟩, .int .i64 0, .int .i64 0, .int .i64 0, .int .i64 0] 47))
    have U1 := Lib.hid ((U0.out.trans hu).alloc (.cells #[.int .i64 2, .string ⟨#[]⟩, .int .i64 0, .int .i64 0, .int .i64 0, .int .i64 0] 47))
    have BRy := (hu.block w.heap.size (lt_of_block BR0.out) (by omega)).trans BR0.out
    have BR1 := Lib.hid (heap_alloc_lt (o := (.cells #[.int .i64 2, .string ⟨#[]⟩, .int .i64 0, .int .i64 0, .int .i64 0, .int .i64 0] 47)) BRy)
    have BM1 := Lib.hid (heap_new w1 (.cells #[.int .i64 2, .string ⟨#[]⟩, .int .i64 0, .int .i64 0, .int .i64 0, .int .i64 0] 47))
    clear hs1 hr hu BRy
    have HC2 := Lib.hid (num_any q s1 T3 _ R1.out 8 (by omega))
    go_wp2_with fail
    refine (HC2.out).mono ?_
    rintro en w2 ⟨s2, rfl, hs, hr, hu⟩
    have BRx := (hu.block w.heap.size (lt_of_block BR1.out) (by omega)).trans BR1.out
    have BMx := (hu.block w1.heap.size (lt_of_block BM1.out) (by omega)).trans BM1.out
    have HS2 := Lib.hid hs
    have hf2 : w2.frozen? ⟨w1.heap.size, 2, none⟩ = false := free_of BMx 2
    have m0 := cells_of BMx 0
    have m1 := cells_of BMx 1
    have m2 := cells_of BMx 2
    have m3 := cells_of BMx 3
    have m4 := cells_of BMx 4
    have m5 := cells_of BMx 5
    have ltm := lt_of_block BMx
    have r0 := cells_of BRx 0
    have fr0 : w2.frozen? ⟨w.heap.size, 0, none⟩ = false := free_of BRx 0
    have r1 := cells_of BRx 1
    have fr1 : w2.frozen? ⟨w.heap.size, 1, none⟩ = false := free_of BRx 1
    have r2 := cells_of BRx 2
    have fr2 : w2.frozen? ⟨w.heap.size, 2, none⟩ = false := free_of BRx 2
    have r3 := cells_of BRx 3
    have fr3 : w2.frozen? ⟨w.heap.size, 3, none⟩ = false := free_of BRx 3
    have r4 := cells_of BRx 4
    have fr4 : w2.frozen? ⟨w.heap.size, 4, none⟩ = false := free_of BRx 4
    have r5 := cells_of BRx 5
    have fr5 : w2.frozen? ⟨w.heap.size, 5, none⟩ = false := free_of BRx 5
    have ltr := lt_of_block BRx
    have R2 := Lib.hid (hr.set_ne (i := 2) (u := .int .i64 (rdN 8 (L s1) T3).1) hne1)
    have U2 := Lib.hid ((U1.out.trans hu).set_new (b := w1.heap.size) (i := 2) (u := .int .i64 (rdN 8 (L s1) T3).1) (by omega))
    have BR2 := Lib.hid (show (w2.setCell ⟨w1.heap.size, 2, none⟩ (.int .i64 (rdN 8 (L s1) T3).1)).heap[w.heap.size]? = some (.cells #[.int .i64 0, .string ⟨#[]⟩, .int .i64 0, .int .i64 0, .int .i64 0, .int .i64 0] 47 (0, 0)) from heap_setCell_ne (by show w.heap.size ≠ w1.heap.size; omega) BRx)
    have BM2 := Lib.hid (show (w2.setCell ⟨w1.heap.size, 2, none⟩ (.int .i64 (rdN 8 (L s1) T3).1)).heap[w1.heap.size]? = some (.cells #[.int .i64 2, .string ⟨#[]⟩, .int .i64 (rdN 8 (L s1) T3).1, .int .i64 0, .int .i64 0, .int .i64 0] 47 (0, 0)) from heap_set_eq2 BMx)
    clear hs hr hu BRx BMx
    have HDF := Lib.hid (show D = (⟨2, ⟨#[]⟩, (rdN 8 (L s1) T3).1, 0, 0, 0⟩, L s2, (rdN 8 (L s1) T3).2.2) by rw [HDD.out, HS2.out, HS1.out]; rfl)
    go_wp2
    have BV : (((((((w2.setCell ⟨w1.heap.size, 2, none⟩ (.int .i64 (rdN 8 (L s1) T3).1)).setCell ⟨w.heap.size, 0, none⟩ (.int .i64 2)).setCell ⟨w.heap.size, 1, none⟩ (.string ⟨#[]⟩)).setCell ⟨w.heap.size, 2, none⟩ (.int .i64 (rdN 8 (L s1) T3).1)).setCell ⟨w.heap.size, 3, none⟩ (.int .i64 0)).setCell ⟨w.heap.size, 4, none⟩ (.int .i64 0)).setCell ⟨w.heap.size, 5, none⟩ (.int .i64 0)).heap[w.heap.size]? = some (.cells #[.int .i64 2, .string ⟨#[]⟩, .int .i64 (rdN 8 (L s1) T3).1, .int .i64 0, .int .i64 0, .int .i64 0] 47 (0, 0)) := (heap_set_eq2 (i := 5) (u := .int .i64 0) (heap_set_eq2 (i := 4) (u := .int .i64 0) (heap_set_eq2 (i := 3) (u := .int .i64 0) (heap_set_eq2 (i := 2) (u := .int .i64 (rdN 8 (L s1) T3).1) (heap_set_eq2 (i := 1) (u := .string ⟨#[]⟩) (heap_set_eq2 (i := 0) (u := .int .i64 2) BR2.out))))))
    have t0 : (((((((w2.setCell ⟨w1.heap.size, 2, none⟩ (.int .i64 (rdN 8 (L s1) T3).1)).setCell ⟨w.heap.size, 0, none⟩ (.int .i64 2)).setCell ⟨w.heap.size, 1, none⟩ (.string ⟨#[]⟩)).setCell ⟨w.heap.size, 2, none⟩ (.int .i64 (rdN 8 (L s1) T3).1)).setCell ⟨w.heap.size, 3, none⟩ (.int .i64 0)).setCell ⟨w.heap.size, 4, none⟩ (.int .i64 0)).setCell ⟨w.heap.size, 5, none⟩ (.int .i64 0)).cell? ⟨w.heap.size, 0, none⟩ = some (.int .i64 2) := cells_of BV 0
    have t1 : (((((((w2.setCell ⟨w1.heap.size, 2, none⟩ (.int .i64 (rdN 8 (L s1) T3).1)).setCell ⟨w.heap.size, 0, none⟩ (.int .i64 2)).setCell ⟨w.heap.size, 1, none⟩ (.string ⟨#[]⟩)).setCell ⟨w.heap.size, 2, none⟩ (.int .i64 (rdN 8 (L s1) T3).1)).setCell ⟨w.heap.size, 3, none⟩ (.int .i64 0)).setCell ⟨w.heap.size, 4, none⟩ (.int .i64 0)).setCell ⟨w.heap.size, 5, none⟩ (.int .i64 0)).cell? ⟨w.heap.size, 1, none⟩ = some (.string ⟨#[]⟩) := cells_of BV 1
    have t2 : (((((((w2.setCell ⟨w1.heap.size, 2, none⟩ (.int .i64 (rdN 8 (L s1) T3).1)).setCell ⟨w.heap.size, 0, none⟩ (.int .i64 2)).setCell ⟨w.heap.size, 1, none⟩ (.string ⟨#[]⟩)).setCell ⟨w.heap.size, 2, none⟩ (.int .i64 (rdN 8 (L s1) T3).1)).setCell ⟨w.heap.size, 3, none⟩ (.int .i64 0)).setCell ⟨w.heap.size, 4, none⟩ (.int .i64 0)).setCell ⟨w.heap.size, 5, none⟩ (.int .i64 0)).cell? ⟨w.heap.size, 2, none⟩ = some (.int .i64 (rdN 8 (L s1) T3).1) := cells_of BV 2
    have t3 : (((((((w2.setCell ⟨w1.heap.size, 2, none⟩ (.int .i64 (rdN 8 (L s1) T3).1)).setCell ⟨w.heap.size, 0, none⟩ (.int .i64 2)).setCell ⟨w.heap.size, 1, none⟩ (.string ⟨#[]⟩)).setCell ⟨w.heap.size, 2, none⟩ (.int .i64 (rdN 8 (L s1) T3).1)).setCell ⟨w.heap.size, 3, none⟩ (.int .i64 0)).setCell ⟨w.heap.size, 4, none⟩ (.int .i64 0)).setCell ⟨w.heap.size, 5, none⟩ (.int .i64 0)).cell? ⟨w.heap.size, 3, none⟩ = some (.int .i64 0) := cells_of BV 3
    have t4 : (((((((w2.setCell ⟨w1.heap.size, 2, none⟩ (.int .i64 (rdN 8 (L s1) T3).1)).setCell ⟨w.heap.size, 0, none⟩ (.int .i64 2)).setCell ⟨w.heap.size, 1, none⟩ (.string ⟨#[]⟩)).setCell ⟨w.heap.size, 2, none⟩ (.int .i64 (rdN 8 (L s1) T3).1)).setCell ⟨w.heap.size, 3, none⟩ (.int .i64 0)).setCell ⟨w.heap.size, 4, none⟩ (.int .i64 0)).setCell ⟨w.heap.size, 5, none⟩ (.int .i64 0)).cell? ⟨w.heap.size, 4, none⟩ = some (.int .i64 0) := cells_of BV 4
    have t5 : (((((((w2.setCell ⟨w1.heap.size, 2, none⟩ (.int .i64 (rdN 8 (L s1) T3).1)).setCell ⟨w.heap.size, 0, none⟩ (.int .i64 2)).setCell ⟨w.heap.size, 1, none⟩ (.string ⟨#[]⟩)).setCell ⟨w.heap.size, 2, none⟩ (.int .i64 (rdN 8 (L s1) T3).1)).setCell ⟨w.heap.size, 3, none⟩ (.int .i64 0)).setCell ⟨w.heap.size, 4, none⟩ (.int .i64 0)).setCell ⟨w.heap.size, 5, none⟩ (.int .i64 0)).cell? ⟨w.heap.size, 5, none⟩ = some (.int .i64 0) := cells_of BV 5
    refine bodyPost_ret (v := .agg #[.int .i64 2, .string ⟨#[]⟩, .int .i64 (rdN 8 (L s1) T3).1, .int .i64 0, .int .i64 0, .int .i64 0]) (by simp [results, Try.results65, go_sem, t0, t1, t2, t3, t4, t5]) rfl ⟨s2, by rw [HDF.out]; rfl, by rw [HDF.out], by rw [HDF.out]; exact ((((((R2.out.set_ne hne0).set_ne hne0).set_ne hne0).set_ne hne0).set_ne hne0).set_ne hne0), ((((((U2.out.set_new (Nat.le_refl _)).set_new (Nat.le_refl _)).set_new (Nat.le_refl _)).set_new (Nat.le_refl _)).set_new (Nat.le_refl _)).set_new (Nat.le_refl _))⟩
  · go_enter Try.func65, Try.ntmps65
    go_wp2_with fail
    refine (HC1.out).mono ?_
    rintro en w1 ⟨s1, rfl, hs1, hr, hu⟩
    have hsz1 := hu.size
    have hq1 := hr.lt
    have hlt1 : w.heap.size < w1.heap.size := by have := hu.size; simp at this; omega
    have hne1 : q ≠ w1.heap.size := by omega
    have HS1 := Lib.hid hs1
    have R1 := Lib.hid (hr.alloc (.cells #[.int .i64 3, .string ⟨#[]⟩, .int .i64 0, .int .i64 0, .int .i64 0, .int .i64 0] 47))
    have U1 := Lib.hid ((U0.out.trans hu).alloc (.cells #[.int .i64 3, .string ⟨#[]⟩, .int .i64 0, .int .i64 0, .int .i64 0, .int .i64 0] 47))
    have BRy := (hu.block w.heap.size (lt_of_block BR0.out) (by omega)).trans BR0.out
    have BR1 := Lib.hid (heap_alloc_lt (o := (.cells #[.int .i64 3, .string ⟨#[]⟩, .int .i64 0, .int .i64 0, .int .i64 0, .int .i64 0] 47)) BRy)
    have BM1 := Lib.hid (heap_new w1 (.cells #[.int .i64 3, .string ⟨#[]⟩, .int .i64 0, .int .i64 0, .int .i64 0, .int .i64 0] 47))
    clear hs1 hr hu BRy
    have HC2 := Lib.hid (link_any q s1 T3 _ R1.out)
    go_wp2_with fail
    refine (HC2.out).mono ?_
    rintro en w2 ⟨s2, rfl, hs, hr, hu⟩
    have BRx := (hu.block w.heap.size (lt_of_block BR1.out) (by omega)).trans BR1.out
    have BMx := (hu.block w1.heap.size (lt_of_block BM1.out) (by omega)).trans BM1.out
    have HS2 := Lib.hid hs
    have hf2 : w2.frozen? ⟨w1.heap.size, 3, none⟩ = false := free_of BMx 3
    have m0 := cells_of BMx 0
    have m1 := cells_of BMx 1
    have m2 := cells_of BMx 2
    have m3 := cells_of BMx 3
    have m4 := cells_of BMx 4
    have m5 := cells_of BMx 5
    have ltm := lt_of_block BMx
    have r0 := cells_of BRx 0
    have fr0 : w2.frozen? ⟨w.heap.size, 0, none⟩ = false := free_of BRx 0
    have r1 := cells_of BRx 1
    have fr1 : w2.frozen? ⟨w.heap.size, 1, none⟩ = false := free_of BRx 1
    have r2 := cells_of BRx 2
    have fr2 : w2.frozen? ⟨w.heap.size, 2, none⟩ = false := free_of BRx 2
    have r3 := cells_of BRx 3
    have fr3 : w2.frozen? ⟨w.heap.size, 3, none⟩ = false := free_of BRx 3
    have r4 := cells_of BRx 4
    have fr4 : w2.frozen? ⟨w.heap.size, 4, none⟩ = false := free_of BRx 4
    have r5 := cells_of BRx 5
    have fr5 : w2.frozen? ⟨w.heap.size, 5, none⟩ = false := free_of BRx 5
    have ltr := lt_of_block BRx
    have R2 := Lib.hid (hr.set_ne (i := 3) (u := .int .i64 (rdN 2 (L s1) T3).1) hne1)
    have U2 := Lib.hid ((U1.out.trans hu).set_new (b := w1.heap.size) (i := 3) (u := .int .i64 (rdN 2 (L s1) T3).1) (by omega))
    have BR2 := Lib.hid (show (w2.setCell ⟨w1.heap.size, 3, none⟩ (.int .i64 (rdN 2 (L s1) T3).1)).heap[w.heap.size]? = some (.cells #[.int .i64 0, .string ⟨#[]⟩, .int .i64 0, .int .i64 0, .int .i64 0, .int .i64 0] 47 (0, 0)) from heap_setCell_ne (by show w.heap.size ≠ w1.heap.size; omega) BRx)
    have BM2 := Lib.hid (show (w2.setCell ⟨w1.heap.size, 3, none⟩ (.int .i64 (rdN 2 (L s1) T3).1)).heap[w1.heap.size]? = some (.cells #[.int .i64 3, .string ⟨#[]⟩, .int .i64 0, .int .i64 (rdN 2 (L s1) T3).1, .int .i64 0, .int .i64 0] 47 (0, 0)) from heap_set_eq2 BMx)
    clear hs hr hu BRx BMx
    have HDF := Lib.hid (show D = (⟨3, ⟨#[]⟩, 0, (rdN 2 (L s1) T3).1, 0, 0⟩, L s2, (rdN 2 (L s1) T3).2.2) by rw [HDD.out, HS2.out, HS1.out]; rfl)
    go_wp2
    have BV : (((((((w2.setCell ⟨w1.heap.size, 3, none⟩ (.int .i64 (rdN 2 (L s1) T3).1)).setCell ⟨w.heap.size, 0, none⟩ (.int .i64 3)).setCell ⟨w.heap.size, 1, none⟩ (.string ⟨#[]⟩)).setCell ⟨w.heap.size, 2, none⟩ (.int .i64 0)).setCell ⟨w.heap.size, 3, none⟩ (.int .i64 (rdN 2 (L s1) T3).1)).setCell ⟨w.heap.size, 4, none⟩ (.int .i64 0)).setCell ⟨w.heap.size, 5, none⟩ (.int .i64 0)).heap[w.heap.size]? = some (.cells #[.int .i64 3, .string ⟨#[]⟩, .int .i64 0, .int .i64 (rdN 2 (L s1) T3).1, .int .i64 0, .int .i64 0] 47 (0, 0)) := (heap_set_eq2 (i := 5) (u := .int .i64 0) (heap_set_eq2 (i := 4) (u := .int .i64 0) (heap_set_eq2 (i := 3) (u := .int .i64 (rdN 2 (L s1) T3).1) (heap_set_eq2 (i := 2) (u := .int .i64 0) (heap_set_eq2 (i := 1) (u := .string ⟨#[]⟩) (heap_set_eq2 (i := 0) (u := .int .i64 3) BR2.out))))))
    have t0 : (((((((w2.setCell ⟨w1.heap.size, 3, none⟩ (.int .i64 (rdN 2 (L s1) T3).1)).setCell ⟨w.heap.size, 0, none⟩ (.int .i64 3)).setCell ⟨w.heap.size, 1, none⟩ (.string ⟨#[]⟩)).setCell ⟨w.heap.size, 2, none⟩ (.int .i64 0)).setCell ⟨w.heap.size, 3, none⟩ (.int .i64 (rdN 2 (L s1) T3).1)).setCell ⟨w.heap.size, 4, none⟩ (.int .i64 0)).setCell ⟨w.heap.size, 5, none⟩ (.int .i64 0)).cell? ⟨w.heap.size, 0, none⟩ = some (.int .i64 3) := cells_of BV 0
    have t1 : (((((((w2.setCell ⟨w1.heap.size, 3, none⟩ (.int .i64 (rdN 2 (L s1) T3).1)).setCell ⟨w.heap.size, 0, none⟩ (.int .i64 3)).setCell ⟨w.heap.size, 1, none⟩ (.string ⟨#[]⟩)).setCell ⟨w.heap.size, 2, none⟩ (.int .i64 0)).setCell ⟨w.heap.size, 3, none⟩ (.int .i64 (rdN 2 (L s1) T3).1)).setCell ⟨w.heap.size, 4, none⟩ (.int .i64 0)).setCell ⟨w.heap.size, 5, none⟩ (.int .i64 0)).cell? ⟨w.heap.size, 1, none⟩ = some (.string ⟨#[]⟩) := cells_of BV 1
    have t2 : (((((((w2.setCell ⟨w1.heap.size, 3, none⟩ (.int .i64 (rdN 2 (L s1) T3).1)).setCell ⟨w.heap.size, 0, none⟩ (.int .i64 3)).setCell ⟨w.heap.size, 1, none⟩ (.string ⟨#[]⟩)).setCell ⟨w.heap.size, 2, none⟩ (.int .i64 0)).setCell ⟨w.heap.size, 3, none⟩ (.int .i64 (rdN 2 (L s1) T3).1)).setCell ⟨w.heap.size, 4, none⟩ (.int .i64 0)).setCell ⟨w.heap.size, 5, none⟩ (.int .i64 0)).cell? ⟨w.heap.size, 2, none⟩ = some (.int .i64 0) := cells_of BV 2
    have t3 : (((((((w2.setCell ⟨w1.heap.size, 3, none⟩ (.int .i64 (rdN 2 (L s1) T3).1)).setCell ⟨w.heap.size, 0, none⟩ (.int .i64 3)).setCell ⟨w.heap.size, 1, none⟩ (.string ⟨#[]⟩)).setCell ⟨w.heap.size, 2, none⟩ (.int .i64 0)).setCell ⟨w.heap.size, 3, none⟩ (.int .i64 (rdN 2 (L s1) T3).1)).setCell ⟨w.heap.size, 4, none⟩ (.int .i64 0)).setCell ⟨w.heap.size, 5, none⟩ (.int .i64 0)).cell? ⟨w.heap.size, 3, none⟩ = some (.int .i64 (rdN 2 (L s1) T3).1) := cells_of BV 3
    have t4 : (((((((w2.setCell ⟨w1.heap.size, 3, none⟩ (.int .i64 (rdN 2 (L s1) T3).1)).setCell ⟨w.heap.size, 0, none⟩ (.int .i64 3)).setCell ⟨w.heap.size, 1, none⟩ (.string ⟨#[]⟩)).setCell ⟨w.heap.size, 2, none⟩ (.int .i64 0)).setCell ⟨w.heap.size, 3, none⟩ (.int .i64 (rdN 2 (L s1) T3).1)).setCell ⟨w.heap.size, 4, none⟩ (.int .i64 0)).setCell ⟨w.heap.size, 5, none⟩ (.int .i64 0)).cell? ⟨w.heap.size, 4, none⟩ = some (.int .i64 0) := cells_of BV 4
    have t5 : (((((((w2.setCell ⟨w1.heap.size, 3, none⟩ (.int .i64 (rdN 2 (L s1) T3).1)).setCell ⟨w.heap.size, 0, none⟩ (.int .i64 3)).setCell ⟨w.heap.size, 1, none⟩ (.string ⟨#[]⟩)).setCell ⟨w.heap.size, 2, none⟩ (.int .i64 0)).setCell ⟨w.heap.size, 3, none⟩ (.int .i64 (rdN 2 (L s1) T3).1)).setCell ⟨w.heap.size, 4, none⟩ (.int .i64 0)).setCell ⟨w.heap.size, 5, none⟩ (.int .i64 0)).cell? ⟨w.heap.size, 5, none⟩ = some (.int .i64 0) := cells_of BV 5
    refine bodyPost_ret (v := .agg #[.int .i64 3, .string ⟨#[]⟩, .int .i64 0, .int .i64 (rdN 2 (L s1) T3).1, .int .i64 0, .int .i64 0]) (by simp [results, Try.results65, go_sem, t0, t1, t2, t3, t4, t5]) rfl ⟨s2, by rw [HDF.out]; rfl, by rw [HDF.out], by rw [HDF.out]; exact ((((((R2.out.set_ne hne0).set_ne hne0).set_ne hne0).set_ne hne0).set_ne hne0).set_ne hne0), ((((((U2.out.set_new (Nat.le_refl _)).set_new (Nat.le_refl _)).set_new (Nat.le_refl _)).set_new (Nat.le_refl _)).set_new (Nat.le_refl _)).set_new (Nat.le_refl _))⟩
  · go_enter Try.func65, Try.ntmps65
    go_wp2_with fail
    refine (HC1.out).mono ?_
    rintro en w1 ⟨s1, rfl, hs1, hr, hu⟩
    have hsz1 := hu.size
    have hq1 := hr.lt
    have hlt1 : w.heap.size < w1.heap.size := by have := hu.size; simp at this; omega
    have hne1 : q ≠ w1.heap.size := by omega
    have HS1 := Lib.hid hs1
    have R1 := Lib.hid (hr.alloc (.cells #[.int .i64 4, .string ⟨#[]⟩, .int .i64 0, .int .i64 0, .int .i64 0, .int .i64 0] 47))
    have U1 := Lib.hid ((U0.out.trans hu).alloc (.cells #[.int .i64 4, .string ⟨#[]⟩, .int .i64 0, .int .i64 0, .int .i64 0, .int .i64 0] 47))
    have BRy := (hu.block w.heap.size (lt_of_block BR0.out) (by omega)).trans BR0.out
    have BR1 := Lib.hid (heap_alloc_lt (o := (.cells #[.int .i64 4, .string ⟨#[]⟩, .int .i64 0, .int .i64 0, .int .i64 0, .int .i64 0] 47)) BRy)
    have BM1 := Lib.hid (heap_new w1 (.cells #[.int .i64 4, .string ⟨#[]⟩, .int .i64 0, .int .i64 0, .int .i64 0, .int .i64 0] 47))
    clear hs1 hr hu BRy
    have HC2 := Lib.hid (link_any q s1 T3 _ R1.out)
    go_wp2_with fail
    refine (HC2.out).mono ?_
    rintro en w2 ⟨s2, rfl, hs, hr, hu⟩
    have BRx := (hu.block w.heap.size (lt_of_block BR1.out) (by omega)).trans BR1.out
    have BMx := (hu.block w1.heap.size (lt_of_block BM1.out) (by omega)).trans BM1.out
    have HS2 := Lib.hid hs
    have hf2 : w2.frozen? ⟨w1.heap.size, 3, none⟩ = false := free_of BMx 3
    have m0 := cells_of BMx 0
    have m1 := cells_of BMx 1
    have m2 := cells_of BMx 2
    have m3 := cells_of BMx 3
    have m4 := cells_of BMx 4
    have m5 := cells_of BMx 5
    have ltm := lt_of_block BMx
    have r0 := cells_of BRx 0
    have fr0 : w2.frozen? ⟨w.heap.size, 0, none⟩ = false := free_of BRx 0
    have r1 := cells_of BRx 1
    have fr1 : w2.frozen? ⟨w.heap.size, 1, none⟩ = false := free_of BRx 1
    have r2 := cells_of BRx 2
    have fr2 : w2.frozen? ⟨w.heap.size, 2, none⟩ = false := free_of BRx 2
    have r3 := cells_of BRx 3
    have fr3 : w2.frozen? ⟨w.heap.size, 3, none⟩ = false := free_of BRx 3
    have r4 := cells_of BRx 4
    have fr4 : w2.frozen? ⟨w.heap.size, 4, none⟩ = false := free_of BRx 4
    have r5 := cells_of BRx 5
    have fr5 : w2.frozen? ⟨w.heap.size, 5, none⟩ = false := free_of BRx 5
    have ltr := lt_of_block BRx
    have R2 := Lib.hid (hr.set_ne (i := 3) (u := .int .i64 (rdN 2 (L s1) T3).1) hne1)
    have U2 := Lib.hid ((U1.out.trans hu).set_new (b := w1.heap.size) (i := 3) (u := .int .i64 (rdN 2 (L s1) T3).1) (by omega))
    have BR2 := Lib.hid (show (w2.setCell ⟨w1.heap.size, 3, none⟩ (.int .i64 (rdN 2 (L s1) T3).1)).heap[w.heap.size]? = some (.cells #[.int .i64 0, .string ⟨#[]⟩, .int .i64 0, .int .i64 0, .int .i64 0, .int .i64 0] 47 (0, 0)) from heap_setCell_ne (by show w.heap.size ≠ w1.heap.size; omega) BRx)
    have BM2 := Lib.hid (show (w2.setCell ⟨w1.heap.size, 3, none⟩ (.int .i64 (rdN 2 (L s1) T3).1)).heap[w1.heap.size]? = some (.cells #[.int .i64 4, .string ⟨#[]⟩, .int .i64 0, .int .i64 (rdN 2 (L s1) T3).1, .int .i64 0, .int .i64 0] 47 (0, 0)) from heap_set_eq2 BMx)
    clear hs hr hu BRx BMx
    have HDF := Lib.hid (show D = (⟨4, ⟨#[]⟩, 0, (rdN 2 (L s1) T3).1, 0, 0⟩, L s2, (rdN 2 (L s1) T3).2.2) by rw [HDD.out, HS2.out, HS1.out]; rfl)
    go_wp2
    have BV : (((((((w2.setCell ⟨w1.heap.size, 3, none⟩ (.int .i64 (rdN 2 (L s1) T3).1)).setCell ⟨w.heap.size, 0, none⟩ (.int .i64 4)).setCell ⟨w.heap.size, 1, none⟩ (.string ⟨#[]⟩)).setCell ⟨w.heap.size, 2, none⟩ (.int .i64 0)).setCell ⟨w.heap.size, 3, none⟩ (.int .i64 (rdN 2 (L s1) T3).1)).setCell ⟨w.heap.size, 4, none⟩ (.int .i64 0)).setCell ⟨w.heap.size, 5, none⟩ (.int .i64 0)).heap[w.heap.size]? = some (.cells #[.int .i64 4, .string ⟨#[]⟩, .int .i64 0, .int .i64 (rdN 2 (L s1) T3).1, .int .i64 0, .int .i64 0] 47 (0, 0)) := (heap_set_eq2 (i := 5) (u := .int .i64 0) (heap_set_eq2 (i := 4) (u := .int .i64 0) (heap_set_eq2 (i := 3) (u := .int .i64 (rdN 2 (L s1) T3).1) (heap_set_eq2 (i := 2) (u := .int .i64 0) (heap_set_eq2 (i := 1) (u := .string ⟨#[]⟩) (heap_set_eq2 (i := 0) (u := .int .i64 4) BR2.out))))))
    have t0 : (((((((w2.setCell ⟨w1.heap.size, 3, none⟩ (.int .i64 (rdN 2 (L s1) T3).1)).setCell ⟨w.heap.size, 0, none⟩ (.int .i64 4)).setCell ⟨w.heap.size, 1, none⟩ (.string ⟨#[]⟩)).setCell ⟨w.heap.size, 2, none⟩ (.int .i64 0)).setCell ⟨w.heap.size, 3, none⟩ (.int .i64 (rdN 2 (L s1) T3).1)).setCell ⟨w.heap.size, 4, none⟩ (.int .i64 0)).setCell ⟨w.heap.size, 5, none⟩ (.int .i64 0)).cell? ⟨w.heap.size, 0, none⟩ = some (.int .i64 4) := cells_of BV 0
    have t1 : (((((((w2.setCell ⟨w1.heap.size, 3, none⟩ (.int .i64 (rdN 2 (L s1) T3).1)).setCell ⟨w.heap.size, 0, none⟩ (.int .i64 4)).setCell ⟨w.heap.size, 1, none⟩ (.string ⟨#[]⟩)).setCell ⟨w.heap.size, 2, none⟩ (.int .i64 0)).setCell ⟨w.heap.size, 3, none⟩ (.int .i64 (rdN 2 (L s1) T3).1)).setCell ⟨w.heap.size, 4, none⟩ (.int .i64 0)).setCell ⟨w.heap.size, 5, none⟩ (.int .i64 0)).cell? ⟨w.heap.size, 1, none⟩ = some (.string ⟨#[]⟩) := cells_of BV 1
    have t2 : (((((((w2.setCell ⟨w1.heap.size, 3, none⟩ (.int .i64 (rdN 2 (L s1) T3).1)).setCell ⟨w.heap.size, 0, none⟩ (.int .i64 4)).setCell ⟨w.heap.size, 1, none⟩ (.string ⟨#[]⟩)).setCell ⟨w.heap.size, 2, none⟩ (.int .i64 0)).setCell ⟨w.heap.size, 3, none⟩ (.int .i64 (rdN 2 (L s1) T3).1)).setCell ⟨w.heap.size, 4, none⟩ (.int .i64 0)).setCell ⟨w.heap.size, 5, none⟩ (.int .i64 0)).cell? ⟨w.heap.size, 2, none⟩ = some (.int .i64 0) := cells_of BV 2
    have t3 : (((((((w2.setCell ⟨w1.heap.size, 3, none⟩ (.int .i64 (rdN 2 (L s1) T3).1)).setCell ⟨w.heap.size, 0, none⟩ (.int .i64 4)).setCell ⟨w.heap.size, 1, none⟩ (.string ⟨#[]⟩)).setCell ⟨w.heap.size, 2, none⟩ (.int .i64 0)).setCell ⟨w.heap.size, 3, none⟩ (.int .i64 (rdN 2 (L s1) T3).1)).setCell ⟨w.heap.size, 4, none⟩ (.int .i64 0)).setCell ⟨w.heap.size, 5, none⟩ (.int .i64 0)).cell? ⟨w.heap.size, 3, none⟩ = some (.int .i64 (rdN 2 (L s1) T3).1) := cells_of BV 3
    have t4 : (((((((w2.setCell ⟨w1.heap.size, 3, none⟩ (.int .i64 (rdN 2 (L s1) T3).1)).setCell ⟨w.heap.size, 0, none⟩ (.int .i64 4)).setCell ⟨w.heap.size, 1, none⟩ (.string ⟨#[]⟩)).setCell ⟨w.heap.size, 2, none⟩ (.int .i64 0)).setCell ⟨w.heap.size, 3, none⟩ (.int .i64 (rdN 2 (L s1) T3).1)).setCell ⟨w.heap.size, 4, none⟩ (.int .i64 0)).setCell ⟨w.heap.size, 5, none⟩ (.int .i64 0)).cell? ⟨w.heap.size, 4, none⟩ = some (.int .i64 0) := cells_of BV 4
    have t5 : (((((((w2.setCell ⟨w1.heap.size, 3, none⟩ (.int .i64 (rdN 2 (L s1) T3).1)).setCell ⟨w.heap.size, 0, none⟩ (.int .i64 4)).setCell ⟨w.heap.size, 1, none⟩ (.string ⟨#[]⟩)).setCell ⟨w.heap.size, 2, none⟩ (.int .i64 0)).setCell ⟨w.heap.size, 3, none⟩ (.int .i64 (rdN 2 (L s1) T3).1)).setCell ⟨w.heap.size, 4, none⟩ (.int .i64 0)).setCell ⟨w.heap.size, 5, none⟩ (.int .i64 0)).cell? ⟨w.heap.size, 5, none⟩ = some (.int .i64 0) := cells_of BV 5
    refine bodyPost_ret (v := .agg #[.int .i64 4, .string ⟨#[]⟩, .int .i64 0, .int .i64 (rdN 2 (L s1) T3).1, .int .i64 0, .int .i64 0]) (by simp [results, Try.results65, go_sem, t0, t1, t2, t3, t4, t5]) rfl ⟨s2, by rw [HDF.out]; rfl, by rw [HDF.out], by rw [HDF.out]; exact ((((((R2.out.set_ne hne0).set_ne hne0).set_ne hne0).set_ne hne0).set_ne hne0).set_ne hne0), ((((((U2.out.set_new (Nat.le_refl _)).set_new (Nat.le_refl _)).set_new (Nat.le_refl _)).set_new (Nat.le_refl _)).set_new (Nat.le_refl _)).set_new (Nat.le_refl _))⟩
  · go_enter Try.func65, Try.ntmps65
    go_wp2_with fail
    refine (HC1.out).mono ?_
    rintro en w1 ⟨s1, rfl, hs1, hr, hu⟩
    have hsz1 := hu.size
    have hq1 := hr.lt
    have hlt1 : w.heap.size < w1.heap.size := by have := hu.size; simp at this; omega
    have hne1 : q ≠ w1.heap.size := by omega
    have HS1 := Lib.hid hs1
    have R1 := Lib.hid (hr.alloc (.cells #[.int .i64 7, .string ⟨#[]⟩, .int .i64 0, .int .i64 0, .int .i64 0, .int .i64 0] 47))
    have U1 := Lib.hid ((U0.out.trans hu).alloc (.cells #[.int .i64 7, .string ⟨#[]⟩, .int .i64 0, .int .i64 0, .int .i64 0, .int .i64 0] 47))
    have BRy := (hu.block w.heap.size (lt_of_block BR0.out) (by omega)).trans BR0.out
    have BR1 := Lib.hid (heap_alloc_lt (o := (.cells #[.int .i64 7, .string ⟨#[]⟩, .int .i64 0, .int .i64 0, .int .i64 0, .int .i64 0] 47)) BRy)
    have BM1 := Lib.hid (heap_new w1 (.cells #[.int .i64 7, .string ⟨#[]⟩, .int .i64 0, .int .i64 0, .int .i64 0, .int .i64 0] 47))
    clear hs1 hr hu BRy
    have HC2 := Lib.hid (link_any q s1 T3 _ R1.out)
    go_wp2_with fail
    refine (HC2.out).mono ?_
    rintro en w2 ⟨s2, rfl, hs, hr, hu⟩
    have BRx := (hu.block w.heap.size (lt_of_block BR1.out) (by omega)).trans BR1.out
    have BMx := (hu.block w1.heap.size (lt_of_block BM1.out) (by omega)).trans BM1.out
    have HS2 := Lib.hid hs
    have hf2 : w2.frozen? ⟨w1.heap.size, 3, none⟩ = false := free_of BMx 3
    have m0 := cells_of BMx 0
    have m1 := cells_of BMx 1
    have m2 := cells_of BMx 2
    have m3 := cells_of BMx 3
    have m4 := cells_of BMx 4
    have m5 := cells_of BMx 5
    have ltm := lt_of_block BMx
    have r0 := cells_of BRx 0
    have fr0 : w2.frozen? ⟨w.heap.size, 0, none⟩ = false := free_of BRx 0
    have r1 := cells_of BRx 1
    have fr1 : w2.frozen? ⟨w.heap.size, 1, none⟩ = false := free_of BRx 1
    have r2 := cells_of BRx 2
    have fr2 : w2.frozen? ⟨w.heap.size, 2, none⟩ = false := free_of BRx 2
    have r3 := cells_of BRx 3
    have fr3 : w2.frozen? ⟨w.heap.size, 3, none⟩ = false := free_of BRx 3
    have r4 := cells_of BRx 4
    have fr4 : w2.frozen? ⟨w.heap.size, 4, none⟩ = false := free_of BRx 4
    have r5 := cells_of BRx 5
    have fr5 : w2.frozen? ⟨w.heap.size, 5, none⟩ = false := free_of BRx 5
    have ltr := lt_of_block BRx
    have R2 := Lib.hid (hr.set_ne (i := 3) (u := .int .i64 (rdN 2 (L s1) T3).1) hne1)
    have U2 := Lib.hid ((U1.out.trans hu).set_new (b := w1.heap.size) (i := 3) (u := .int .i64 (rdN 2 (L s1) T3).1) (by omega))
    have BR2 := Lib.hid (show (w2.setCell ⟨w1.heap.size, 3, none⟩ (.int .i64 (rdN 2 (L s1) T3).1)).heap[w.heap.size]? = some (.cells #[.int .i64 0, .string ⟨#[]⟩, .int .i64 0, .int .i64 0, .int .i64 0, .int .i64 0] 47 (0, 0)) from heap_setCell_ne (by show w.heap.size ≠ w1.heap.size; omega) BRx)
    have BM2 := Lib.hid (show (w2.setCell ⟨w1.heap.size, 3, none⟩ (.int .i64 (rdN 2 (L s1) T3).1)).heap[w1.heap.size]? = some (.cells #[.int .i64 7, .string ⟨#[]⟩, .int .i64 0, .int .i64 (rdN 2 (L s1) T3).1, .int .i64 0, .int .i64 0] 47 (0, 0)) from heap_set_eq2 BMx)
    clear hs hr hu BRx BMx
    have HDF := Lib.hid (show D = (⟨7, ⟨#[]⟩, 0, (rdN 2 (L s1) T3).1, 0, 0⟩, L s2, (rdN 2 (L s1) T3).2.2) by rw [HDD.out, HS2.out, HS1.out]; rfl)
    go_wp2
    have BV : (((((((w2.setCell ⟨w1.heap.size, 3, none⟩ (.int .i64 (rdN 2 (L s1) T3).1)).setCell ⟨w.heap.size, 0, none⟩ (.int .i64 7)).setCell ⟨w.heap.size, 1, none⟩ (.string ⟨#[]⟩)).setCell ⟨w.heap.size, 2, none⟩ (.int .i64 0)).setCell ⟨w.heap.size, 3, none⟩ (.int .i64 (rdN 2 (L s1) T3).1)).setCell ⟨w.heap.size, 4, none⟩ (.int .i64 0)).setCell ⟨w.heap.size, 5, none⟩ (.int .i64 0)).heap[w.heap.size]? = some (.cells #[.int .i64 7, .string ⟨#[]⟩, .int .i64 0, .int .i64 (rdN 2 (L s1) T3).1, .int .i64 0, .int .i64 0] 47 (0, 0)) := (heap_set_eq2 (i := 5) (u := .int .i64 0) (heap_set_eq2 (i := 4) (u := .int .i64 0) (heap_set_eq2 (i := 3) (u := .int .i64 (rdN 2 (L s1) T3).1) (heap_set_eq2 (i := 2) (u := .int .i64 0) (heap_set_eq2 (i := 1) (u := .string ⟨#[]⟩) (heap_set_eq2 (i := 0) (u := .int .i64 7) BR2.out))))))
    have t0 : (((((((w2.setCell ⟨w1.heap.size, 3, none⟩ (.int .i64 (rdN 2 (L s1) T3).1)).setCell ⟨w.heap.size, 0, none⟩ (.int .i64 7)).setCell ⟨w.heap.size, 1, none⟩ (.string ⟨#[]⟩)).setCell ⟨w.heap.size, 2, none⟩ (.int .i64 0)).setCell ⟨w.heap.size, 3, none⟩ (.int .i64 (rdN 2 (L s1) T3).1)).setCell ⟨w.heap.size, 4, none⟩ (.int .i64 0)).setCell ⟨w.heap.size, 5, none⟩ (.int .i64 0)).cell? ⟨w.heap.size, 0, none⟩ = some (.int .i64 7) := cells_of BV 0
    have t1 : (((((((w2.setCell ⟨w1.heap.size, 3, none⟩ (.int .i64 (rdN 2 (L s1) T3).1)).setCell ⟨w.heap.size, 0, none⟩ (.int .i64 7)).setCell ⟨w.heap.size, 1, none⟩ (.string ⟨#[]⟩)).setCell ⟨w.heap.size, 2, none⟩ (.int .i64 0)).setCell ⟨w.heap.size, 3, none⟩ (.int .i64 (rdN 2 (L s1) T3).1)).setCell ⟨w.heap.size, 4, none⟩ (.int .i64 0)).setCell ⟨w.heap.size, 5, none⟩ (.int .i64 0)).cell? ⟨w.heap.size, 1, none⟩ = some (.string ⟨#[]⟩) := cells_of BV 1
    have t2 : (((((((w2.setCell ⟨w1.heap.size, 3, none⟩ (.int .i64 (rdN 2 (L s1) T3).1)).setCell ⟨w.heap.size, 0, none⟩ (.int .i64 7)).setCell ⟨w.heap.size, 1, none⟩ (.string ⟨#[]⟩)).setCell ⟨w.heap.size, 2, none⟩ (.int .i64 0)).setCell ⟨w.heap.size, 3, none⟩ (.int .i64 (rdN 2 (L s1) T3).1)).setCell ⟨w.heap.size, 4, none⟩ (.int .i64 0)).setCell ⟨w.heap.size, 5, none⟩ (.int .i64 0)).cell? ⟨w.heap.size, 2, none⟩ = some (.int .i64 0) := cells_of BV 2
    have t3 : (((((((w2.setCell ⟨w1.heap.size, 3, none⟩ (.int .i64 (rdN 2 (L s1) T3).1)).setCell ⟨w.heap.size, 0, none⟩ (.int .i64 7)).setCell ⟨w.heap.size, 1, none⟩ (.string ⟨#[]⟩)).setCell ⟨w.heap.size, 2, none⟩ (.int .i64 0)).setCell ⟨w.heap.size, 3, none⟩ (.int .i64 (rdN 2 (L s1) T3).1)).setCell ⟨w.heap.size, 4, none⟩ (.int .i64 0)).setCell ⟨w.heap.size, 5, none⟩ (.int .i64 0)).cell? ⟨w.heap.size, 3, none⟩ = some (.int .i64 (rdN 2 (L s1) T3).1) := cells_of BV 3
    have t4 : (((((((w2.setCell ⟨w1.heap.size, 3, none⟩ (.int .i64 (rdN 2 (L s1) T3).1)).setCell ⟨w.heap.size, 0, none⟩ (.int .i64 7)).setCell ⟨w.heap.size, 1, none⟩ (.string ⟨#[]⟩)).setCell ⟨w.heap.size, 2, none⟩ (.int .i64 0)).setCell ⟨w.heap.size, 3, none⟩ (.int .i64 (rdN 2 (L s1) T3).1)).setCell ⟨w.heap.size, 4, none⟩ (.int .i64 0)).setCell ⟨w.heap.size, 5, none⟩ (.int .i64 0)).cell? ⟨w.heap.size, 4, none⟩ = some (.int .i64 0) := cells_of BV 4
    have t5 : (((((((w2.setCell ⟨w1.heap.size, 3, none⟩ (.int .i64 (rdN 2 (L s1) T3).1)).setCell ⟨w.heap.size, 0, none⟩ (.int .i64 7)).setCell ⟨w.heap.size, 1, none⟩ (.string ⟨#[]⟩)).setCell ⟨w.heap.size, 2, none⟩ (.int .i64 0)).setCell ⟨w.heap.size, 3, none⟩ (.int .i64 (rdN 2 (L s1) T3).1)).setCell ⟨w.heap.size, 4, none⟩ (.int .i64 0)).setCell ⟨w.heap.size, 5, none⟩ (.int .i64 0)).cell? ⟨w.heap.size, 5, none⟩ = some (.int .i64 0) := cells_of BV 5
    refine bodyPost_ret (v := .agg #[.int .i64 7, .string ⟨#[]⟩, .int .i64 0, .int .i64 (rdN 2 (L s1) T3).1, .int .i64 0, .int .i64 0]) (by simp [results, Try.results65, go_sem, t0, t1, t2, t3, t4, t5]) rfl ⟨s2, by rw [HDF.out]; rfl, by rw [HDF.out], by rw [HDF.out]; exact ((((((R2.out.set_ne hne0).set_ne hne0).set_ne hne0).set_ne hne0).set_ne hne0).set_ne hne0), ((((((U2.out.set_new (Nat.le_refl _)).set_new (Nat.le_refl _)).set_new (Nat.le_refl _)).set_new (Nat.le_refl _)).set_new (Nat.le_refl _)).set_new (Nat.le_refl _))⟩
  · go_enter Try.func65, Try.ntmps65
    go_wp2_with fail
    refine (HC1.out).mono ?_
    rintro en w1 ⟨s1, rfl, hs1, hr, hu⟩
    have hsz1 := hu.size
    have hq1 := hr.lt
    have hlt1 : w.heap.size < w1.heap.size := by have := hu.size; simp at this; omega
    have hne1 : q ≠ w1.heap.size := by omega
    have HS1 := Lib.hid hs1
    have R1 := Lib.hid (hr.alloc (.cells #[.int .i64 5, .string ⟨#[]⟩, .int .i64 0, .int .i64 0, .int .i64 0, .int .i64 0] 47))
    have U1 := Lib.hid ((U0.out.trans hu).alloc (.cells #[.int .i64 5, .string ⟨#[]⟩, .int .i64 0, .int .i64 0, .int .i64 0, .int .i64 0] 47))
    have BRy := (hu.block w.heap.size (lt_of_block BR0.out) (by omega)).trans BR0.out
    have BR1 := Lib.hid (heap_alloc_lt (o := (.cells #[.int .i64 5, .string ⟨#[]⟩, .int .i64 0, .int .i64 0, .int .i64 0, .int .i64 0] 47)) BRy)
    have BM1 := Lib.hid (heap_new w1 (.cells #[.int .i64 5, .string ⟨#[]⟩, .int .i64 0, .int .i64 0, .int .i64 0, .int .i64 0] 47))
    clear hs1 hr hu BRy
    have HC2 := Lib.hid (link_any q s1 T3 _ R1.out)
    go_wp2_with fail
    refine (HC2.out).mono ?_
    rintro en w2 ⟨s2, rfl, hs, hr, hu⟩
    have BRx := (hu.block w.heap.size (lt_of_block BR1.out) (by omega)).trans BR1.out
    have BMx := (hu.block w1.heap.size (lt_of_block BM1.out) (by omega)).trans BM1.out
    have HS2 := Lib.hid hs
    have hf2 : w2.frozen? ⟨w1.heap.size, 3, none⟩ = false := free_of BMx 3
    have m0 := cells_of BMx 0
    have m1 := cells_of BMx 1
    have m2 := cells_of BMx 2
    have m3 := cells_of BMx 3
    have m4 := cells_of BMx 4
    have m5 := cells_of BMx 5
    have ltm := lt_of_block BMx
    have R2 := Lib.hid (hr.set_ne (i := 3) (u := .int .i64 (rdN 2 (L s1) T3).1) hne1)
    have U2 := Lib.hid ((U1.out.trans hu).set_new (b := w1.heap.size) (i := 3) (u := .int .i64 (rdN 2 (L s1) T3).1) (by omega))
    have BR2 := Lib.hid (show (w2.setCell ⟨w1.heap.size, 3, none⟩ (.int .i64 (rdN 2 (L s1) T3).1)).heap[w.heap.size]? = some (.cells #[.int .i64 0, .string ⟨#[]⟩, .int .i64 0, .int .i64 0, .int .i64 0, .int .i64 0] 47 (0, 0)) from heap_setCell_ne (by show w.heap.size ≠ w1.heap.size; omega) BRx)
    have BM2 := Lib.hid (show (w2.setCell ⟨w1.heap.size, 3, none⟩ (.int .i64 (rdN 2 (L s1) T3).1)).heap[w1.heap.size]? = some (.cells #[.int .i64 5, .string ⟨#[]⟩, .int .i64 0, .int .i64 (rdN 2 (L s1) T3).1, .int .i64 0, .int .i64 0] 47 (0, 0)) from heap_set_eq2 BMx)
    clear hs hr hu BRx BMx
    have HC3 := Lib.hid (link_any q s2 (rdN 2 (L s1) T3).2.2 _ R2.out)
    go_wp2_with fail
    refine (HC3.out).mono ?_
    rintro en w3 ⟨s3, rfl, hs, hr, hu⟩
    have BRx := (hu.block w.heap.size (lt_of_block BR2.out) (by omega)).trans BR2.out
    have BMx := (hu.block w1.heap.size (lt_of_block BM2.out) (by omega)).trans BM2.out
    have HS3 := Lib.hid hs
    have hf3 : w3.frozen? ⟨w1.heap.size, 4, none⟩ = false := free_of BMx 4
    have m0 := cells_of BMx 0
    have m1 := cells_of BMx 1
    have m2 := cells_of BMx 2
    have m3 := cells_of BMx 3
    have m4 := cells_of BMx 4
    have m5 := cells_of BMx 5
    have ltm := lt_of_block BMx
    have R3 := Lib.hid (hr.set_ne (i := 4) (u := .int .i64 (rdN 2 (L s2) (rdN 2 (L s1) T3).2.2).1) hne1)
    have U3 := Lib.hid ((U2.out.trans hu).set_new (b := w1.heap.size) (i := 4) (u := .int .i64 (rdN 2 (L s2) (rdN 2 (L s1) T3).2.2).1) (by omega))
    have BR3 := Lib.hid (show (w3.setCell ⟨w1.heap.size, 4, none⟩ (.int .i64 (rdN 2 (L s2) (rdN 2 (L s1) T3).2.2).1)).heap[w.heap.size]? = some (.cells #[.int .i64 0, .string ⟨#[]⟩, .int .i64 0, .int .i64 0, .int .i64 0, .int .i64 0] 47 (0, 0)) from heap_setCell_ne (by show w.heap.size ≠ w1.heap.size; omega) BRx)
    have BM3 := Lib.hid (show (w3.setCell ⟨w1.heap.size, 4, none⟩ (.int .i64 (rdN 2 (L s2) (rdN 2 (L s1) T3).2.2).1)).heap[w1.heap.size]? = some (.cells #[.int .i64 5, .string ⟨#[]⟩, .int .i64 0, .int .i64 (rdN 2 (L s1) T3).1, .int .i64 (rdN 2 (L s2) (rdN 2 (L s1) T3).2.2).1, .int .i64 0] 47 (0, 0)) from heap_set_eq2 BMx)
    clear hs hr hu BRx BMx
    have HC4 := Lib.hid (link_any q s3 (rdN 2 (L s2) (rdN 2 (L s1) T3).2.2).2.2 _ R3.out)
    go_wp2_with fail
    refine (HC4.out).mono ?_
    rintro en w4 ⟨s4, rfl, hs, hr, hu⟩
    have BRx := (hu.block w.heap.size (lt_of_block BR3.out) (by omega)).trans BR3.out
    have BMx := (hu.block w1.heap.size (lt_of_block BM3.out) (by omega)).trans BM3.out
    have HS4 := Lib.hid hs
    have hf4 : w4.frozen? ⟨w1.heap.size, 5, none⟩ = false := free_of BMx 5
    have m0 := cells_of BMx 0
    have m1 := cells_of BMx 1
    have m2 := cells_of BMx 2
    have m3 := cells_of BMx 3
    have m4 := cells_of BMx 4
    have m5 := cells_of BMx 5
    have ltm := lt_of_block BMx
    have r0 := cells_of BRx 0
    have fr0 : w4.frozen? ⟨w.heap.size, 0, none⟩ = false := free_of BRx 0
    have r1 := cells_of BRx 1
    have fr1 : w4.frozen? ⟨w.heap.size, 1, none⟩ = false := free_of BRx 1
    have r2 := cells_of BRx 2
    have fr2 : w4.frozen? ⟨w.heap.size, 2, none⟩ = false := free_of BRx 2
    have r3 := cells_of BRx 3
    have fr3 : w4.frozen? ⟨w.heap.size, 3, none⟩ = false := free_of BRx 3
    have r4 := cells_of BRx 4
    have fr4 : w4.frozen? ⟨w.heap.size, 4, none⟩ = false := free_of BRx 4
    have r5 := cells_of BRx 5
    have fr5 : w4.frozen? ⟨w.heap.size, 5, none⟩ = false := free_of BRx 5
    have ltr := lt_of_block BRx
    have R4 := Lib.hid (hr.set_ne (i := 5) (u := .int .i64 (rdN 2 (L s3) (rdN 2 (L s2) (rdN 2 (L s1) T3).2.2).2.2).1) hne1)
    have U4 := Lib.hid ((U3.out.trans hu).set_new (b := w1.heap.size) (i := 5) (u := .int .i64 (rdN 2 (L s3) (rdN 2 (L s2) (rdN 2 (L s1) T3).2.2).2.2).1) (by omega))
    have BR4 := Lib.hid (show (w4.setCell ⟨w1.heap.size, 5, none⟩ (.int .i64 (rdN 2 (L s3) (rdN 2 (L s2) (rdN 2 (L s1) T3).2.2).2.2).1)).heap[w.heap.size]? = some (.cells #[.int .i64 0, .string ⟨#[]⟩, .int .i64 0, .int .i64 0, .int .i64 0, .int .i64 0] 47 (0, 0)) from heap_setCell_ne (by show w.heap.size ≠ w1.heap.size; omega) BRx)
    have BM4 := Lib.hid (show (w4.setCell ⟨w1.heap.size, 5, none⟩ (.int .i64 (rdN 2 (L s3) (rdN 2 (L s2) (rdN 2 (L s1) T3).2.2).2.2).1)).heap[w1.heap.size]? = some (.cells #[.int .i64 5, .string ⟨#[]⟩, .int .i64 0, .int .i64 (rdN 2 (L s1) T3).1, .int .i64 (rdN 2 (L s2) (rdN 2 (L s1) T3).2.2).1, .int .i64 (rdN 2 (L s3) (rdN 2 (L s2) (rdN 2 (L s1) T3).2.2).2.2).1] 47 (0, 0)) from heap_set_eq2 BMx)
    clear hs hr hu BRx BMx
    have HDF := Lib.hid (show D = (⟨5, ⟨#[]⟩, 0, (rdN 2 (L s1) T3).1, (rdN 2 (L s2) (rdN 2 (L s1) T3).2.2).1, (rdN 2 (L s3) (rdN 2 (L s2) (rdN 2 (L s1) T3).2.2).2.2).1⟩, L s4, (rdN 2 (L s3) (rdN 2 (L s2) (rdN 2 (L s1) T3).2.2).2.2).2.2) by rw [HDD.out, HS4.out, HS3.out, HS2.out, HS1.out]; rfl)
    go_wp2
    have BV : (((((((w4.setCell ⟨w1.heap.size, 5, none⟩ (.int .i64 (rdN 2 (L s3) (rdN 2 (L s2) (rdN 2 (L s1) T3).2.2).2.2).1)).setCell ⟨w.heap.size, 0, none⟩ (.int .i64 5)).setCell ⟨w.heap.size, 1, none⟩ (.string ⟨#[]⟩)).setCell ⟨w.heap.size, 2, none⟩ (.int .i64 0)).setCell ⟨w.heap.size, 3, none⟩ (.int .i64 (rdN 2 (L s1) T3).1)).setCell ⟨w.heap.size, 4, none⟩ (.int .i64 (rdN 2 (L s2) (rdN 2 (L s1) T3).2.2).1)).setCell ⟨w.heap.size, 5, none⟩ (.int .i64 (rdN 2 (L s3) (rdN 2 (L s2) (rdN 2 (L s1) T3).2.2).2.2).1)).heap[w.heap.size]? = some (.cells #[.int .i64 5, .string ⟨#[]⟩, .int .i64 0, .int .i64 (rdN 2 (L s1) T3).1, .int .i64 (rdN 2 (L s2) (rdN 2 (L s1) T3).2.2).1, .int .i64 (rdN 2 (L s3) (rdN 2 (L s2) (rdN 2 (L s1) T3).2.2).2.2).1] 47 (0, 0)) := (heap_set_eq2 (i := 5) (u := .int .i64 (rdN 2 (L s3) (rdN 2 (L s2) (rdN 2 (L s1) T3).2.2).2.2).1) (heap_set_eq2 (i := 4) (u := .int .i64 (rdN 2 (L s2) (rdN 2 (L s1) T3).2.2).1) (heap_set_eq2 (i := 3) (u := .int .i64 (rdN 2 (L s1) T3).1) (heap_set_eq2 (i := 2) (u := .int .i64 0) (heap_set_eq2 (i := 1) (u := .string ⟨#[]⟩) (heap_set_eq2 (i := 0) (u := .int .i64 5) BR4.out))))))
    have t0 : (((((((w4.setCell ⟨w1.heap.size, 5, none⟩ (.int .i64 (rdN 2 (L s3) (rdN 2 (L s2) (rdN 2 (L s1) T3).2.2).2.2).1)).setCell ⟨w.heap.size, 0, none⟩ (.int .i64 5)).setCell ⟨w.heap.size, 1, none⟩ (.string ⟨#[]⟩)).setCell ⟨w.heap.size, 2, none⟩ (.int .i64 0)).setCell ⟨w.heap.size, 3, none⟩ (.int .i64 (rdN 2 (L s1) T3).1)).setCell ⟨w.heap.size, 4, none⟩ (.int .i64 (rdN 2 (L s2) (rdN 2 (L s1) T3).2.2).1)).setCell ⟨w.heap.size, 5, none⟩ (.int .i64 (rdN 2 (L s3) (rdN 2 (L s2) (rdN 2 (L s1) T3).2.2).2.2).1)).cell? ⟨w.heap.size, 0, none⟩ = some (.int .i64 5) := cells_of BV 0
    have t1 : (((((((w4.setCell ⟨w1.heap.size, 5, none⟩ (.int .i64 (rdN 2 (L s3) (rdN 2 (L s2) (rdN 2 (L s1) T3).2.2).2.2).1)).setCell ⟨w.heap.size, 0, none⟩ (.int .i64 5)).setCell ⟨w.heap.size, 1, none⟩ (.string ⟨#[]⟩)).setCell ⟨w.heap.size, 2, none⟩ (.int .i64 0)).setCell ⟨w.heap.size, 3, none⟩ (.int .i64 (rdN 2 (L s1) T3).1)).setCell ⟨w.heap.size, 4, none⟩ (.int .i64 (rdN 2 (L s2) (rdN 2 (L s1) T3).2.2).1)).setCell ⟨w.heap.size, 5, none⟩ (.int .i64 (rdN 2 (L s3) (rdN 2 (L s2) (rdN 2 (L s1) T3).2.2).2.2).1)).cell? ⟨w.heap.size, 1, none⟩ = some (.string ⟨#[]⟩) := cells_of BV 1
    have t2 : (((((((w4.setCell ⟨w1.heap.size, 5, none⟩ (.int .i64 (rdN 2 (L s3) (rdN 2 (L s2) (rdN 2 (L s1) T3).2.2).2.2).1)).setCell ⟨w.heap.size, 0, none⟩ (.int .i64 5)).setCell ⟨w.heap.size, 1, none⟩ (.string ⟨#[]⟩)).setCell ⟨w.heap.size, 2, none⟩ (.int .i64 0)).setCell ⟨w.heap.size, 3, none⟩ (.int .i64 (rdN 2 (L s1) T3).1)).setCell ⟨w.heap.size, 4, none⟩ (.int .i64 (rdN 2 (L s2) (rdN 2 (L s1) T3).2.2).1)).setCell ⟨w.heap.size, 5, none⟩ (.int .i64 (rdN 2 (L s3) (rdN 2 (L s2) (rdN 2 (L s1) T3).2.2).2.2).1)).cell? ⟨w.heap.size, 2, none⟩ = some (.int .i64 0) := cells_of BV 2
    have t3 : (((((((w4.setCell ⟨w1.heap.size, 5, none⟩ (.int .i64 (rdN 2 (L s3) (rdN 2 (L s2) (rdN 2 (L s1) T3).2.2).2.2).1)).setCell ⟨w.heap.size, 0, none⟩ (.int .i64 5)).setCell ⟨w.heap.size, 1, none⟩ (.string ⟨#[]⟩)).setCell ⟨w.heap.size, 2, none⟩ (.int .i64 0)).setCell ⟨w.heap.size, 3, none⟩ (.int .i64 (rdN 2 (L s1) T3).1)).setCell ⟨w.heap.size, 4, none⟩ (.int .i64 (rdN 2 (L s2) (rdN 2 (L s1) T3).2.2).1)).setCell ⟨w.heap.size, 5, none⟩ (.int .i64 (rdN 2 (L s3) (rdN 2 (L s2) (rdN 2 (L s1) T3).2.2).2.2).1)).cell? ⟨w.heap.size, 3, none⟩ = some (.int .i64 (rdN 2 (L s1) T3).1) := cells_of BV 3
    have t4 : (((((((w4.setCell ⟨w1.heap.size, 5, none⟩ (.int .i64 (rdN 2 (L s3) (rdN 2 (L s2) (rdN 2 (L s1) T3).2.2).2.2).1)).setCell ⟨w.heap.size, 0, none⟩ (.int .i64 5)).setCell ⟨w.heap.size, 1, none⟩ (.string ⟨#[]⟩)).setCell ⟨w.heap.size, 2, none⟩ (.int .i64 0)).setCell ⟨w.heap.size, 3, none⟩ (.int .i64 (rdN 2 (L s1) T3).1)).setCell ⟨w.heap.size, 4, none⟩ (.int .i64 (rdN 2 (L s2) (rdN 2 (L s1) T3).2.2).1)).setCell ⟨w.heap.size, 5, none⟩ (.int .i64 (rdN 2 (L s3) (rdN 2 (L s2) (rdN 2 (L s1) T3).2.2).2.2).1)).cell? ⟨w.heap.size, 4, none⟩ = some (.int .i64 (rdN 2 (L s2) (rdN 2 (L s1) T3).2.2).1) := cells_of BV 4
    have t5 : (((((((w4.setCell ⟨w1.heap.size, 5, none⟩ (.int .i64 (rdN 2 (L s3) (rdN 2 (L s2) (rdN 2 (L s1) T3).2.2).2.2).1)).setCell ⟨w.heap.size, 0, none⟩ (.int .i64 5)).setCell ⟨w.heap.size, 1, none⟩ (.string ⟨#[]⟩)).setCell ⟨w.heap.size, 2, none⟩ (.int .i64 0)).setCell ⟨w.heap.size, 3, none⟩ (.int .i64 (rdN 2 (L s1) T3).1)).setCell ⟨w.heap.size, 4, none⟩ (.int .i64 (rdN 2 (L s2) (rdN 2 (L s1) T3).2.2).1)).setCell ⟨w.heap.size, 5, none⟩ (.int .i64 (rdN 2 (L s3) (rdN 2 (L s2) (rdN 2 (L s1) T3).2.2).2.2).1)).cell? ⟨w.heap.size, 5, none⟩ = some (.int .i64 (rdN 2 (L s3) (rdN 2 (L s2) (rdN 2 (L s1) T3).2.2).2.2).1) := cells_of BV 5
    refine bodyPost_ret (v := .agg #[.int .i64 5, .string ⟨#[]⟩, .int .i64 0, .int .i64 (rdN 2 (L s1) T3).1, .int .i64 (rdN 2 (L s2) (rdN 2 (L s1) T3).2.2).1, .int .i64 (rdN 2 (L s3) (rdN 2 (L s2) (rdN 2 (L s1) T3).2.2).2.2).1]) (by simp [results, Try.results65, go_sem, t0, t1, t2, t3, t4, t5]) rfl ⟨s4, by rw [HDF.out]; rfl, by rw [HDF.out], by rw [HDF.out]; exact ((((((R4.out.set_ne hne0).set_ne hne0).set_ne hne0).set_ne hne0).set_ne hne0).set_ne hne0), ((((((U4.out.set_new (Nat.le_refl _)).set_new (Nat.le_refl _)).set_new (Nat.le_refl _)).set_new (Nat.le_refl _)).set_new (Nat.le_refl _)).set_new (Nat.le_refl _))⟩
  · go_enter Try.func65, Try.ntmps65
    go_wp2_with fail
    refine (HC1.out).mono ?_
    rintro en w1 ⟨s1, rfl, hs1, hr, hu⟩
    have hsz1 := hu.size
    have hq1 := hr.lt
    have hlt1 : w.heap.size < w1.heap.size := by have := hu.size; simp at this; omega
    have hne1 : q ≠ w1.heap.size := by omega
    have HS1 := Lib.hid hs1
    have R1 := Lib.hid (hr.alloc (.cells #[.int .i64 6, .string ⟨#[]⟩, .int .i64 0, .int .i64 0, .int .i64 0, .int .i64 0] 47))
    have U1 := Lib.hid ((U0.out.trans hu).alloc (.cells #[.int .i64 6, .string ⟨#[]⟩, .int .i64 0, .int .i64 0, .int .i64 0, .int .i64 0] 47))
    have BRy := (hu.block w.heap.size (lt_of_block BR0.out) (by omega)).trans BR0.out
    have BR1 := Lib.hid (heap_alloc_lt (o := (.cells #[.int .i64 6, .string ⟨#[]⟩, .int .i64 0, .int .i64 0, .int .i64 0, .int .i64 0] 47)) BRy)
    have BM1 := Lib.hid (heap_new w1 (.cells #[.int .i64 6, .string ⟨#[]⟩, .int .i64 0, .int .i64 0, .int .i64 0, .int .i64 0] 47))
    clear hs1 hr hu BRy
    have HC2 := Lib.hid (link_any q s1 T3 _ R1.out)
    go_wp2_with fail
    refine (HC2.out).mono ?_
    rintro en w2 ⟨s2, rfl, hs, hr, hu⟩
    have BRx := (hu.block w.heap.size (lt_of_block BR1.out) (by omega)).trans BR1.out
    have BMx := (hu.block w1.heap.size (lt_of_block BM1.out) (by omega)).trans BM1.out
    have HS2 := Lib.hid hs
    have hf2 : w2.frozen? ⟨w1.heap.size, 3, none⟩ = false := free_of BMx 3
    have m0 := cells_of BMx 0
    have m1 := cells_of BMx 1
    have m2 := cells_of BMx 2
    have m3 := cells_of BMx 3
    have m4 := cells_of BMx 4
    have m5 := cells_of BMx 5
    have ltm := lt_of_block BMx
    have R2 := Lib.hid (hr.set_ne (i := 3) (u := .int .i64 (rdN 2 (L s1) T3).1) hne1)
    have U2 := Lib.hid ((U1.out.trans hu).set_new (b := w1.heap.size) (i := 3) (u := .int .i64 (rdN 2 (L s1) T3).1) (by omega))
    have BR2 := Lib.hid (show (w2.setCell ⟨w1.heap.size, 3, none⟩ (.int .i64 (rdN 2 (L s1) T3).1)).heap[w.heap.size]? = some (.cells #[.int .i64 0, .string ⟨#[]⟩, .int .i64 0, .int .i64 0, .int .i64 0, .int .i64 0] 47 (0, 0)) from heap_setCell_ne (by show w.heap.size ≠ w1.heap.size; omega) BRx)
    have BM2 := Lib.hid (show (w2.setCell ⟨w1.heap.size, 3, none⟩ (.int .i64 (rdN 2 (L s1) T3).1)).heap[w1.heap.size]? = some (.cells #[.int .i64 6, .string ⟨#[]⟩, .int .i64 0, .int .i64 (rdN 2 (L s1) T3).1, .int .i64 0, .int .i64 0] 47 (0, 0)) from heap_set_eq2 BMx)
    clear hs hr hu BRx BMx
    have HC3 := Lib.hid (link_any q s2 (rdN 2 (L s1) T3).2.2 _ R2.out)
    go_wp2_with fail
    refine (HC3.out).mono ?_
    rintro en w3 ⟨s3, rfl, hs, hr, hu⟩
    have BRx := (hu.block w.heap.size (lt_of_block BR2.out) (by omega)).trans BR2.out
    have BMx := (hu.block w1.heap.size (lt_of_block BM2.out) (by omega)).trans BM2.out
    have HS3 := Lib.hid hs
    have hf3 : w3.frozen? ⟨w1.heap.size, 4, none⟩ = false := free_of BMx 4
    have m0 := cells_of BMx 0
    have m1 := cells_of BMx 1
    have m2 := cells_of BMx 2
    have m3 := cells_of BMx 3
    have m4 := cells_of BMx 4
    have m5 := cells_of BMx 5
    have ltm := lt_of_block BMx
    have R3 := Lib.hid (hr.set_ne (i := 4) (u := .int .i64 (rdN 2 (L s2) (rdN 2 (L s1) T3).2.2).1) hne1)
    have U3 := Lib.hid ((U2.out.trans hu).set_new (b := w1.heap.size) (i := 4) (u := .int .i64 (rdN 2 (L s2) (rdN 2 (L s1) T3).2.2).1) (by omega))
    have BR3 := Lib.hid (show (w3.setCell ⟨w1.heap.size, 4, none⟩ (.int .i64 (rdN 2 (L s2) (rdN 2 (L s1) T3).2.2).1)).heap[w.heap.size]? = some (.cells #[.int .i64 0, .string ⟨#[]⟩, .int .i64 0, .int .i64 0, .int .i64 0, .int .i64 0] 47 (0, 0)) from heap_setCell_ne (by show w.heap.size ≠ w1.heap.size; omega) BRx)
    have BM3 := Lib.hid (show (w3.setCell ⟨w1.heap.size, 4, none⟩ (.int .i64 (rdN 2 (L s2) (rdN 2 (L s1) T3).2.2).1)).heap[w1.heap.size]? = some (.cells #[.int .i64 6, .string ⟨#[]⟩, .int .i64 0, .int .i64 (rdN 2 (L s1) T3).1, .int .i64 (rdN 2 (L s2) (rdN 2 (L s1) T3).2.2).1, .int .i64 0] 47 (0, 0)) from heap_set_eq2 BMx)
    clear hs hr hu BRx BMx
    have HC4 := Lib.hid (link_any q s3 (rdN 2 (L s2) (rdN 2 (L s1) T3).2.2).2.2 _ R3.out)
    go_wp2_with fail
    refine (HC4.out).mono ?_
    rintro en w4 ⟨s4, rfl, hs, hr, hu⟩
    have BRx := (hu.block w.heap.size (lt_of_block BR3.out) (by omega)).trans BR3.out
    have BMx := (hu.block w1.heap.size (lt_of_block BM3.out) (by omega)).trans BM3.out
    have HS4 := Lib.hid hs
    have hf4 : w4.frozen? ⟨w1.heap.size, 5, none⟩ = false := free_of BMx 5
    have m0 := cells_of BMx 0
    have m1 := cells_of BMx 1
    have m2 := cells_of BMx 2
    have m3 := cells_of BMx 3
    have m4 := cells_of BMx 4
    have m5 := cells_of BMx 5
    have ltm := lt_of_block BMx
    have r0 := cells_of BRx 0
    have fr0 : w4.frozen? ⟨w.heap.size, 0, none⟩ = false := free_of BRx 0
    have r1 := cells_of BRx 1
    have fr1 : w4.frozen? ⟨w.heap.size, 1, none⟩ = false := free_of BRx 1
    have r2 := cells_of BRx 2
    have fr2 : w4.frozen? ⟨w.heap.size, 2, none⟩ = false := free_of BRx 2
    have r3 := cells_of BRx 3
    have fr3 : w4.frozen? ⟨w.heap.size, 3, none⟩ = false := free_of BRx 3
    have r4 := cells_of BRx 4
    have fr4 : w4.frozen? ⟨w.heap.size, 4, none⟩ = false := free_of BRx 4
    have r5 := cells_of BRx 5
    have fr5 : w4.frozen? ⟨w.heap.size, 5, none⟩ = false := free_of BRx 5
    have ltr := lt_of_block BRx
    have R4 := Lib.hid (hr.set_ne (i := 5) (u := .int .i64 (rdN 2 (L s3) (rdN 2 (L s2) (rdN 2 (L s1) T3).2.2).2.2).1) hne1)
    have U4 := Lib.hid ((U3.out.trans hu).set_new (b := w1.heap.size) (i := 5) (u := .int .i64 (rdN 2 (L s3) (rdN 2 (L s2) (rdN 2 (L s1) T3).2.2).2.2).1) (by omega))
    have BR4 := Lib.hid (show (w4.setCell ⟨w1.heap.size, 5, none⟩ (.int .i64 (rdN 2 (L s3) (rdN 2 (L s2) (rdN 2 (L s1) T3).2.2).2.2).1)).heap[w.heap.size]? = some (.cells #[.int .i64 0, .string ⟨#[]⟩, .int .i64 0, .int .i64 0, .int .i64 0, .int .i64 0] 47 (0, 0)) from heap_setCell_ne (by show w.heap.size ≠ w1.heap.size; omega) BRx)
    have BM4 := Lib.hid (show (w4.setCell ⟨w1.heap.size, 5, none⟩ (.int .i64 (rdN 2 (L s3) (rdN 2 (L s2) (rdN 2 (L s1) T3).2.2).2.2).1)).heap[w1.heap.size]? = some (.cells #[.int .i64 6, .string ⟨#[]⟩, .int .i64 0, .int .i64 (rdN 2 (L s1) T3).1, .int .i64 (rdN 2 (L s2) (rdN 2 (L s1) T3).2.2).1, .int .i64 (rdN 2 (L s3) (rdN 2 (L s2) (rdN 2 (L s1) T3).2.2).2.2).1] 47 (0, 0)) from heap_set_eq2 BMx)
    clear hs hr hu BRx BMx
    have HDF := Lib.hid (show D = (⟨6, ⟨#[]⟩, 0, (rdN 2 (L s1) T3).1, (rdN 2 (L s2) (rdN 2 (L s1) T3).2.2).1, (rdN 2 (L s3) (rdN 2 (L s2) (rdN 2 (L s1) T3).2.2).2.2).1⟩, L s4, (rdN 2 (L s3) (rdN 2 (L s2) (rdN 2 (L s1) T3).2.2).2.2).2.2) by rw [HDD.out, HS4.out, HS3.out, HS2.out, HS1.out]; rfl)
    go_wp2
    have BV : (((((((w4.setCell ⟨w1.heap.size, 5, none⟩ (.int .i64 (rdN 2 (L s3) (rdN 2 (L s2) (rdN 2 (L s1) T3).2.2).2.2).1)).setCell ⟨w.heap.size, 0, none⟩ (.int .i64 6)).setCell ⟨w.heap.size, 1, none⟩ (.string ⟨#[]⟩)).setCell ⟨w.heap.size, 2, none⟩ (.int .i64 0)).setCell ⟨w.heap.size, 3, none⟩ (.int .i64 (rdN 2 (L s1) T3).1)).setCell ⟨w.heap.size, 4, none⟩ (.int .i64 (rdN 2 (L s2) (rdN 2 (L s1) T3).2.2).1)).setCell ⟨w.heap.size, 5, none⟩ (.int .i64 (rdN 2 (L s3) (rdN 2 (L s2) (rdN 2 (L s1) T3).2.2).2.2).1)).heap[w.heap.size]? = some (.cells #[.int .i64 6, .string ⟨#[]⟩, .int .i64 0, .int .i64 (rdN 2 (L s1) T3).1, .int .i64 (rdN 2 (L s2) (rdN 2 (L s1) T3).2.2).1, .int .i64 (rdN 2 (L s3) (rdN 2 (L s2) (rdN 2 (L s1) T3).2.2).2.2).1] 47 (0, 0)) := (heap_set_eq2 (i := 5) (u := .int .i64 (rdN 2 (L s3) (rdN 2 (L s2) (rdN 2 (L s1) T3).2.2).2.2).1) (heap_set_eq2 (i := 4) (u := .int .i64 (rdN 2 (L s2) (rdN 2 (L s1) T3).2.2).1) (heap_set_eq2 (i := 3) (u := .int .i64 (rdN 2 (L s1) T3).1) (heap_set_eq2 (i := 2) (u := .int .i64 0) (heap_set_eq2 (i := 1) (u := .string ⟨#[]⟩) (heap_set_eq2 (i := 0) (u := .int .i64 6) BR4.out))))))
    have t0 : (((((((w4.setCell ⟨w1.heap.size, 5, none⟩ (.int .i64 (rdN 2 (L s3) (rdN 2 (L s2) (rdN 2 (L s1) T3).2.2).2.2).1)).setCell ⟨w.heap.size, 0, none⟩ (.int .i64 6)).setCell ⟨w.heap.size, 1, none⟩ (.string ⟨#[]⟩)).setCell ⟨w.heap.size, 2, none⟩ (.int .i64 0)).setCell ⟨w.heap.size, 3, none⟩ (.int .i64 (rdN 2 (L s1) T3).1)).setCell ⟨w.heap.size, 4, none⟩ (.int .i64 (rdN 2 (L s2) (rdN 2 (L s1) T3).2.2).1)).setCell ⟨w.heap.size, 5, none⟩ (.int .i64 (rdN 2 (L s3) (rdN 2 (L s2) (rdN 2 (L s1) T3).2.2).2.2).1)).cell? ⟨w.heap.size, 0, none⟩ = some (.int .i64 6) := cells_of BV 0
    have t1 : (((((((w4.setCell ⟨w1.heap.size, 5, none⟩ (.int .i64 (rdN 2 (L s3) (rdN 2 (L s2) (rdN 2 (L s1) T3).2.2).2.2).1)).setCell ⟨w.heap.size, 0, none⟩ (.int .i64 6)).setCell ⟨w.heap.size, 1, none⟩ (.string ⟨#[]⟩)).setCell ⟨w.heap.size, 2, none⟩ (.int .i64 0)).setCell ⟨w.heap.size, 3, none⟩ (.int .i64 (rdN 2 (L s1) T3).1)).setCell ⟨w.heap.size, 4, none⟩ (.int .i64 (rdN 2 (L s2) (rdN 2 (L s1) T3).2.2).1)).setCell ⟨w.heap.size, 5, none⟩ (.int .i64 (rdN 2 (L s3) (rdN 2 (L s2) (rdN 2 (L s1) T3).2.2).2.2).1)).cell? ⟨w.heap.size, 1, none⟩ = some (.string ⟨#[]⟩) := cells_of BV 1
    have t2 : (((((((w4.setCell ⟨w1.heap.size, 5, none⟩ (.int .i64 (rdN 2 (L s3) (rdN 2 (L s2) (rdN 2 (L s1) T3).2.2).2.2).1)).setCell ⟨w.heap.size, 0, none⟩ (.int .i64 6)).setCell ⟨w.heap.size, 1, none⟩ (.string ⟨#[]⟩)).setCell ⟨w.heap.size, 2, none⟩ (.int .i64 0)).setCell ⟨w.heap.size, 3, none⟩ (.int .i64 (rdN 2 (L s1) T3).1)).setCell ⟨w.heap.size, 4, none⟩ (.int .i64 (rdN 2 (L s2) (rdN 2 (L s1) T3).2.2).1)).setCell ⟨w.heap.size, 5, none⟩ (.int .i64 (rdN 2 (L s3) (rdN 2 (L s2) (rdN 2 (L s1) T3).2.2).2.2).1)).cell? ⟨w.heap.size, 2, none⟩ = some (.int .i64 0) := cells_of BV 2
    have t3 : (((((((w4.setCell ⟨w1.heap.size, 5, none⟩ (.int .i64 (rdN 2 (L s3) (rdN 2 (L s2) (rdN 2 (L s1) T3).2.2).2.2).1)).setCell ⟨w.heap.size, 0, none⟩ (.int .i64 6)).setCell ⟨w.heap.size, 1, none⟩ (.string ⟨#[]⟩)).setCell ⟨w.heap.size, 2, none⟩ (.int .i64 0)).setCell ⟨w.heap.size, 3, none⟩ (.int .i64 (rdN 2 (L s1) T3).1)).setCell ⟨w.heap.size, 4, none⟩ (.int .i64 (rdN 2 (L s2) (rdN 2 (L s1) T3).2.2).1)).setCell ⟨w.heap.size, 5, none⟩ (.int .i64 (rdN 2 (L s3) (rdN 2 (L s2) (rdN 2 (L s1) T3).2.2).2.2).1)).cell? ⟨w.heap.size, 3, none⟩ = some (.int .i64 (rdN 2 (L s1) T3).1) := cells_of BV 3
    have t4 : (((((((w4.setCell ⟨w1.heap.size, 5, none⟩ (.int .i64 (rdN 2 (L s3) (rdN 2 (L s2) (rdN 2 (L s1) T3).2.2).2.2).1)).setCell ⟨w.heap.size, 0, none⟩ (.int .i64 6)).setCell ⟨w.heap.size, 1, none⟩ (.string ⟨#[]⟩)).setCell ⟨w.heap.size, 2, none⟩ (.int .i64 0)).setCell ⟨w.heap.size, 3, none⟩ (.int .i64 (rdN 2 (L s1) T3).1)).setCell ⟨w.heap.size, 4, none⟩ (.int .i64 (rdN 2 (L s2) (rdN 2 (L s1) T3).2.2).1)).setCell ⟨w.heap.size, 5, none⟩ (.int .i64 (rdN 2 (L s3) (rdN 2 (L s2) (rdN 2 (L s1) T3).2.2).2.2).1)).cell? ⟨w.heap.size, 4, none⟩ = some (.int .i64 (rdN 2 (L s2) (rdN 2 (L s1) T3).2.2).1) := cells_of BV 4
    have t5 : (((((((w4.setCell ⟨w1.heap.size, 5, none⟩ (.int .i64 (rdN 2 (L s3) (rdN 2 (L s2) (rdN 2 (L s1) T3).2.2).2.2).1)).setCell ⟨w.heap.size, 0, none⟩ (.int .i64 6)).setCell ⟨w.heap.size, 1, none⟩ (.string ⟨#[]⟩)).setCell ⟨w.heap.size, 2, none⟩ (.int .i64 0)).setCell ⟨w.heap.size, 3, none⟩ (.int .i64 (rdN 2 (L s1) T3).1)).setCell ⟨w.heap.size, 4, none⟩ (.int .i64 (rdN 2 (L s2) (rdN 2 (L s1) T3).2.2).1)).setCell ⟨w.heap.size, 5, none⟩ (.int .i64 (rdN 2 (L s3) (rdN 2 (L s2) (rdN 2 (L s1) T3).2.2).2.2).1)).cell? ⟨w.heap.size, 5, none⟩ = some (.int .i64 (rdN 2 (L s3) (rdN 2 (L s2) (rdN 2 (L s1) T3).2.2).2.2).1) := cells_of BV 5
    refine bodyPost_ret (v := .agg #[.int .i64 6, .string ⟨#[]⟩, .int .i64 0, .int .i64 (rdN 2 (L s1) T3).1, .int .i64 (rdN 2 (L s2) (rdN 2 (L s1) T3).2.2).1, .int .i64 (rdN 2 (L s3) (rdN 2 (L s2) (rdN 2 (L s1) T3).2.2).2.2).1]) (by simp [results, Try.results65, go_sem, t0, t1, t2, t3, t4, t5]) rfl ⟨s4, by rw [HDF.out]; rfl, by rw [HDF.out], by rw [HDF.out]; exact ((((((R4.out.set_ne hne0).set_ne hne0).set_ne hne0).set_ne hne0).set_ne hne0).set_ne hne0), ((((((U4.out.set_new (Nat.le_refl _)).set_new (Nat.le_refl _)).set_new (Nat.le_refl _)).set_new (Nat.le_refl _)).set_new (Nat.le_refl _)).set_new (Nat.le_refl _))⟩
  · have g1 : (T1 == 1) = false := by simpa using h1
    have g2 : (T1 == 2) = false := by simpa using h2
    have g3 : (T1 == 3) = false := by simpa using h3
    have g4 : (T1 == 4) = false := by simpa using h4
    have g7 : (T1 == 7) = false := by simpa using h7
    have g5 : (T1 == 5) = false := by simpa using h5
    have g6 : (T1 == 6) = false := by simpa using h6
    have HDF := Lib.hid (show D = (⟨T1, ⟨#[]⟩, 0, 0, 0, 0⟩, T2, failE T3 4) by rw [HDD.out]; simp [h1, h2, h3, h4, h5, h6, h7])
    clear h1 h2 h3 h4 h5 h6 h7
    go_enter Try.func65, Try.ntmps65
    go_wp2_with fail
    refine (HC1.out).mono ?_
    rintro en w1 ⟨s1, rfl, hs1, hr, hu⟩
    have hsz1 := hu.size
    have hq1 := hr.lt
    have hlt1 : w.heap.size < w1.heap.size := by have := hu.size; simp at this; omega
    have hne1 : q ≠ w1.heap.size := by omega
    have HS1 := Lib.hid hs1
    have R1 := Lib.hid (hr.alloc (.cells #[.int .i64 T1, .string ⟨#[]⟩, .int .i64 0, .int .i64 0, .int .i64 0, .int .i64 0] 47))
    have U1 := Lib.hid ((U0.out.trans hu).alloc (.cells #[.int .i64 T1, .string ⟨#[]⟩, .int .i64 0, .int .i64 0, .int .i64 0, .int .i64 0] 47))
    have BRy := (hu.block w.heap.size (lt_of_block BR0.out) (by omega)).trans BR0.out
    have BR1 := Lib.hid (heap_alloc_lt (o := (.cells #[.int .i64 T1, .string ⟨#[]⟩, .int .i64 0, .int .i64 0, .int .i64 0, .int .i64 0] 47)) BRy)
    have BM1 := Lib.hid (heap_new w1 (.cells #[.int .i64 T1, .string ⟨#[]⟩, .int .i64 0, .int .i64 0, .int .i64 0, .int .i64 0] 47))
    clear hs1 hr hu BRy
    have HC2 := Lib.hid (fail_any q s1 T3 4 _ R1.out)
    go_wp2_with fail
    refine (HC2.out).mono ?_
    rintro en w2 ⟨rfl, hr, hu⟩
    have BRx := (hu.block w.heap.size (lt_of_block BR1.out) (by omega)).trans BR1.out
    have BMx := (hu.block w1.heap.size (lt_of_block BM1.out) (by omega)).trans BM1.out
    have m0 := cells_of BMx 0
    have m1 := cells_of BMx 1
    have m2 := cells_of BMx 2
    have m3 := cells_of BMx 3
    have m4 := cells_of BMx 4
    have m5 := cells_of BMx 5
    have ltm := lt_of_block BMx
    have r0 := cells_of BRx 0
    have fr0 : w2.frozen? ⟨w.heap.size, 0, none⟩ = false := free_of BRx 0
    have r1 := cells_of BRx 1
    have fr1 : w2.frozen? ⟨w.heap.size, 1, none⟩ = false := free_of BRx 1
    have r2 := cells_of BRx 2
    have fr2 : w2.frozen? ⟨w.heap.size, 2, none⟩ = false := free_of BRx 2
    have r3 := cells_of BRx 3
    have fr3 : w2.frozen? ⟨w.heap.size, 3, none⟩ = false := free_of BRx 3
    have r4 := cells_of BRx 4
    have fr4 : w2.frozen? ⟨w.heap.size, 4, none⟩ = false := free_of BRx 4
    have r5 := cells_of BRx 5
    have fr5 : w2.frozen? ⟨w.heap.size, 5, none⟩ = false := free_of BRx 5
    have ltr := lt_of_block BRx
    have R2 := Lib.hid hr
    have U2 := Lib.hid (U1.out.trans hu)
    have BR2 := Lib.hid BRx
    have BM2 := Lib.hid BMx
    clear hr hu BRx BMx
    have HDF2 := HDF.out
    rw [← HS1.out] at HDF2
    have HDF := Lib.hid HDF2
    clear HDF2
    go_wp2
    have BV : ((((((w2.setCell ⟨w.heap.size, 0, none⟩ (.int .i64 T1)).setCell ⟨w.heap.size, 1, none⟩ (.string ⟨#[]⟩)).setCell ⟨w.heap.size, 2, none⟩ (.int .i64 0)).setCell ⟨w.heap.size, 3, none⟩ (.int .i64 0)).setCell ⟨w.heap.size, 4, none⟩ (.int .i64 0)).setCell ⟨w.heap.size, 5, none⟩ (.int .i64 0)).heap[w.heap.size]? = some (.cells #[.int .i64 T1, .string ⟨#[]⟩, .int .i64 0, .int .i64 0, .int .i64 0, .int .i64 0] 47 (0, 0)) := (heap_set_eq2 (i := 5) (u := .int .i64 0) (heap_set_eq2 (i := 4) (u := .int .i64 0) (heap_set_eq2 (i := 3) (u := .int .i64 0) (heap_set_eq2 (i := 2) (u := .int .i64 0) (heap_set_eq2 (i := 1) (u := .string ⟨#[]⟩) (heap_set_eq2 (i := 0) (u := .int .i64 T1) BR2.out))))))
    have t0 : ((((((w2.setCell ⟨w.heap.size, 0, none⟩ (.int .i64 T1)).setCell ⟨w.heap.size, 1, none⟩ (.string ⟨#[]⟩)).setCell ⟨w.heap.size, 2, none⟩ (.int .i64 0)).setCell ⟨w.heap.size, 3, none⟩ (.int .i64 0)).setCell ⟨w.heap.size, 4, none⟩ (.int .i64 0)).setCell ⟨w.heap.size, 5, none⟩ (.int .i64 0)).cell? ⟨w.heap.size, 0, none⟩ = some (.int .i64 T1) := cells_of BV 0
    have t1 : ((((((w2.setCell ⟨w.heap.size, 0, none⟩ (.int .i64 T1)).setCell ⟨w.heap.size, 1, none⟩ (.string ⟨#[]⟩)).setCell ⟨w.heap.size, 2, none⟩ (.int .i64 0)).setCell ⟨w.heap.size, 3, none⟩ (.int .i64 0)).setCell ⟨w.heap.size, 4, none⟩ (.int .i64 0)).setCell ⟨w.heap.size, 5, none⟩ (.int .i64 0)).cell? ⟨w.heap.size, 1, none⟩ = some (.string ⟨#[]⟩) := cells_of BV 1
    have t2 : ((((((w2.setCell ⟨w.heap.size, 0, none⟩ (.int .i64 T1)).setCell ⟨w.heap.size, 1, none⟩ (.string ⟨#[]⟩)).setCell ⟨w.heap.size, 2, none⟩ (.int .i64 0)).setCell ⟨w.heap.size, 3, none⟩ (.int .i64 0)).setCell ⟨w.heap.size, 4, none⟩ (.int .i64 0)).setCell ⟨w.heap.size, 5, none⟩ (.int .i64 0)).cell? ⟨w.heap.size, 2, none⟩ = some (.int .i64 0) := cells_of BV 2
    have t3 : ((((((w2.setCell ⟨w.heap.size, 0, none⟩ (.int .i64 T1)).setCell ⟨w.heap.size, 1, none⟩ (.string ⟨#[]⟩)).setCell ⟨w.heap.size, 2, none⟩ (.int .i64 0)).setCell ⟨w.heap.size, 3, none⟩ (.int .i64 0)).setCell ⟨w.heap.size, 4, none⟩ (.int .i64 0)).setCell ⟨w.heap.size, 5, none⟩ (.int .i64 0)).cell? ⟨w.heap.size, 3, none⟩ = some (.int .i64 0) := cells_of BV 3
    have t4 : ((((((w2.setCell ⟨w.heap.size, 0, none⟩ (.int .i64 T1)).setCell ⟨w.heap.size, 1, none⟩ (.string ⟨#[]⟩)).setCell ⟨w.heap.size, 2, none⟩ (.int .i64 0)).setCell ⟨w.heap.size, 3, none⟩ (.int .i64 0)).setCell ⟨w.heap.size, 4, none⟩ (.int .i64 0)).setCell ⟨w.heap.size, 5, none⟩ (.int .i64 0)).cell? ⟨w.heap.size, 4, none⟩ = some (.int .i64 0) := cells_of BV 4
    have t5 : ((((((w2.setCell ⟨w.heap.size, 0, none⟩ (.int .i64 T1)).setCell ⟨w.heap.size, 1, none⟩ (.string ⟨#[]⟩)).setCell ⟨w.heap.size, 2, none⟩ (.int .i64 0)).setCell ⟨w.heap.size, 3, none⟩ (.int .i64 0)).setCell ⟨w.heap.size, 4, none⟩ (.int .i64 0)).setCell ⟨w.heap.size, 5, none⟩ (.int .i64 0)).cell? ⟨w.heap.size, 5, none⟩ = some (.int .i64 0) := cells_of BV 5
    refine bodyPost_ret (v := .agg #[.int .i64 T1, .string ⟨#[]⟩, .int .i64 0, .int .i64 0, .int .i64 0, .int .i64 0]) (by simp [results, Try.results65, go_sem, t0, t1, t2, t3, t4, t5]) rfl ⟨s1, by rw [HDF.out]; rfl, by rw [HDF.out], by rw [HDF.out]; exact ((((((R2.out.set_ne hne0).set_ne hne0).set_ne hne0).set_ne hne0).set_ne hne0).set_ne hne0), ((((((U2.out.set_new (Nat.le_refl _)).set_new (Nat.le_refl _)).set_new (Nat.le_refl _)).set_new (Nat.le_refl _)).set_new (Nat.le_refl _)).set_new (Nat.le_refl _))⟩
end Go.Proofs.Ytcgloepfnnfioaa
