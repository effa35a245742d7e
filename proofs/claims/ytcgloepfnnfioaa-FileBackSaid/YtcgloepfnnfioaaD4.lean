/-
  PRUNED by wip/tools/prunem.py: what these texts need of an earlier stage's.
-/
import Derived.Test.YtcgloepfnnfioaaD3
set_option linter.unusedVariables false
set_option linter.unusedSimpArgs false
namespace Go.Proofs.Ytcgloepfnnfioaa
open Go.RowKit

def pcV (k : Nat) (p : Ty) : Value := .agg #[.int .i64 k, .int .i64 p.1, .string (mkB p.2)]
def fpV (x : Nat × Ty × Nat) : Value := .tuple #[pcV x.1 x.2.1, .int .i64 x.2.2]
theorem ftV_none : ftV none = .tuple #[.agg #[.int .i64 0, .string ⟨#[]⟩], .int .i64 0] := rfl
theorem ftV_some (p : Ty) : ftV (some p) = .tuple #[.agg #[.int .i64 p.1, .string (mkB p.2)], .int .i64 (tlen p)] := rfl
theorem beq_toNat {c : UInt8} {x : Nat} (hx : x < 256) (h : c ≠ UInt8.ofNat x) : ((c.toNat : Int) == (x : Int)) = false := by
  rw [beq_eq_false_iff_ne]
  intro e
  apply h
  have e' : c.toNat = x := by omega
  exact UInt8.toNat_inj.1 (by rw [e', UInt8.toNat_ofNat']; omega)
set_option maxRecDepth 1000000 in
set_option maxHeartbeats 1600000 in
theorem firstPiece_any (s : ByteArray) (w : World) (hs : s.size ≤ 9223372036854775807) :
    Calls Try.prog 118 #[.string s] w fun e w' => e = .returned (fpV (pieceL (L s))) ∧ Below w.heap.size w w' := by
  have HBE := Lib.hid ((Below.refl w.heap.size w).alloc (Nat.le_refl _) (.cells #[.int .i64 0, .int .i64 0, .string ⟨#[]⟩] 124))
  cases hL : L s with
  | nil =>
    have hz : s.size = 0 := by rw [size_L, hL]; rfl
    have e1 := nil_of0 hz
    have e2 := emp_of0 hz
    clear hL hz
    show Calls Try.prog 118 #[.string s] w fun e w' => e = .returned (.tuple #[.agg #[.int .i64 1, .int .i64 0, .string ⟨#[]⟩], .int .i64 0]) ∧ Below w.heap.size w w'
    go_enter Try.func118, Try.ntmps118
    go_wp2
    refine bodyPost_ret (v := .tuple #[.agg #[.int .i64 1, .int .i64 0, .string ⟨#[]⟩], .int .i64 0]) (by simp [results, Try.results118, go_sem]) rfl ⟨rfl, ?_⟩
    exact (Below.refl _ _).alloc (Nat.le_refl _) _
  | cons c t =>
    obtain ⟨hp, hc⟩ := head_at hL
    have e1 := ne_ofpos hp
    have e2 := emp_ofpos hp
    by_cases h40 : c = 40
    · subst h40
      have hat : ((s[0]'hp).toNat : Int) = 40 := by rw [hc]; rfl
      clear hL hc
      show Calls Try.prog 118 #[.string s] w fun e w' => e = .returned (.tuple #[.agg #[.int .i64 2, .int .i64 0, .string ⟨#[]⟩], .int .i64 1]) ∧ Below w.heap.size w w'
      go_enter Try.func118, Try.ntmps118
      go_wp2
      refine bodyPost_ret (v := .tuple #[.agg #[.int .i64 2, .int .i64 0, .string ⟨#[]⟩], .int .i64 1]) (by simp [results, Try.results118, go_sem]) rfl ⟨rfl, ?_⟩
      exact (Below.refl _ _).alloc (Nat.le_refl _) _
    by_cases h41 : c = 41
    · subst h41
      have hat : ((s[0]'hp).toNat : Int) = 41 := by rw [hc]; rfl
      clear hL hc h40
      show Calls Try.prog 118 #[.string s] w fun e w' => e = .returned (.tuple #[.agg #[.int .i64 3, .int .i64 0, .string ⟨#[]⟩], .int .i64 1]) ∧ Below w.heap.size w w'
      go_enter Try.func118, Try.ntmps118
      go_wp2
      refine bodyPost_ret (v := .tuple #[.agg #[.int .i64 3, .int .i64 0, .string ⟨#[]⟩], .int .i64 1]) (by simp [results, Try.results118, go_sem]) rfl ⟨rfl, ?_⟩
      exact (Below.refl _ _).alloc (Nat.le_refl _) _
    by_cases h86 : c = 86
    · subst h86
      have hat : ((s[0]'hp).toNat : Int) = 86 := by rw [hc]; rfl
      clear hL hc h40 h41
      show Calls Try.prog 118 #[.string s] w fun e w' => e = .returned (.tuple #[.agg #[.int .i64 4, .int .i64 0, .string ⟨#[]⟩], .int .i64 1]) ∧ Below w.heap.size w w'
      go_enter Try.func118, Try.ntmps118
      go_wp2
      refine bodyPost_ret (v := .tuple #[.agg #[.int .i64 4, .int .i64 0, .string ⟨#[]⟩], .int .i64 1]) (by simp [results, Try.results118, go_sem]) rfl ⟨rfl, ?_⟩
      exact (Below.refl _ _).alloc (Nat.le_refl _) _
    have a1 : (((s[0]'hp).toNat : Int) == 40) = false := by rw [hc]; exact beq_toNat (x := 40) (by omega) h40
    have a2 : (((s[0]'hp).toNat : Int) == 41) = false := by rw [hc]; exact beq_toNat (x := 41) (by omega) h41
    have a3 : (((s[0]'hp).toNat : Int) == 86) = false := by rw [hc]; exact beq_toNat (x := 86) (by omega) h86
    have HF := fun W => Lib.hid (firstType_any s W hs)
    rw [hL] at HF
    have hpc := pieceL_cons c t
    rw [if_neg h40, if_neg h41, if_neg h86] at hpc
    rw [hpc]
    cases hf : firstL (c :: t) with
    | none =>
      rw [hf, ftV_none] at HF
      clear hL hc hpc hf h40 h41 h86
      show Calls Try.prog 118 #[.string s] w fun e w' => e = .returned (.tuple #[.agg #[.int .i64 0, .int .i64 0, .string ⟨#[]⟩], .int .i64 0]) ∧ Below w.heap.size w w'
      go_enter Try.func118, Try.ntmps118
      go_wp2_with fail
      refine (HF _).out.mono ?_
      rintro e w2 ⟨rfl, hb2⟩
      obtain ⟨hc, hf⟩ := bcell hb2
      have hs2 := hb2.size
      have hz2 : w.heap.size < w2.heap.size := by simp at hs2; omega
      have HB2 := Lib.hid (HBE.out.trans (hb2.mono (by simp)))
      go_wp2
      refine bodyPost_ret (v := .tuple #[.agg #[.int .i64 0, .int .i64 0, .string ⟨#[]⟩], .int .i64 0]) (by simp [results, Try.results118, go_sem, hc, hz2]) rfl ⟨rfl, ?_⟩
      exact (((HB2.out.setCell (Nat.le_refl _) _).setCell (Nat.le_refl _) _).setCell (Nat.le_refl _) _).alloc (by simp; omega) _
    | some p =>
      have htp := tlen_pos p
      have hn0 : (((tlen p : Nat) : Int) == 0) = false := by rw [beq_eq_false_iff_ne]; omega
      rw [hf, ftV_some] at HF
      show Calls Try.prog 118 #[.string s] w fun e w' => e = .returned (.tuple #[.agg #[.int .i64 5, .int .i64 p.1, .string (mkB p.2)], .int .i64 (tlen p)]) ∧ Below w.heap.size w w'
      generalize tlen p = m at *
      generalize mkB p.2 = nm at *
      generalize p.1 = d at *
      clear hL hc hpc hf h40 h41 h86 htp
      go_enter Try.func118, Try.ntmps118
      go_wp2_with fail
      refine (HF _).out.mono ?_
      rintro e w2 ⟨rfl, hb2⟩
      obtain ⟨hc, hf⟩ := bcell hb2
      have hs2 := hb2.size
      have hz2 : w.heap.size < w2.heap.size := by simp at hs2; omega
      have HB2 := Lib.hid (HBE.out.trans (hb2.mono (by simp)))
      go_wp2
      refine bodyPost_ret (v := .tuple #[.agg #[.int .i64 5, .int .i64 d, .string nm], .int .i64 m]) (by simp [results, Try.results118, go_sem, hc, hz2]) rfl ⟨rfl, ?_⟩
      exact (((HB2.out.setCell (Nat.le_refl _) _).setCell (Nat.le_refl _) _).setCell (Nat.le_refl _) _).alloc (by simp; omega) _
theorem pieces_any (s : ByteArray) (w : World) :
    Calls Try.prog 106 #[.string s] w fun e w' => e = .returned (.func (.func 117) #[] #[.pointer (some ⟨w.heap.size, 0, none⟩)]) ∧ w' = w.alloc (.cells #[.string s] 9) := by
  go_enter Try.func106, Try.ntmps106
  go_wp2
  go_ret
  exact ⟨rfl, rfl⟩
/-- All but block b is as it was. -/
structure But (b : Nat) (w w' : World) : Prop where
  os : w'.os = w.os
  tape : w'.tape = w.tape
  output : w'.output = w.output
  size : w.heap.size ≤ w'.heap.size
  block : ∀ k, k < w.heap.size → k ≠ b → w'.heap[k]? = w.heap[k]?
theorem But.below {b B : Nat} {w w' : World} (h : But b w w') (hB : B ≤ b) (hw : B ≤ w.heap.size) : Below B w w' :=
  ⟨h.os, h.tape, h.output, h.size, fun k hk => h.block k (by omega) (by omega)⟩
theorem But.of {b : Nat} {w w' : World} (h : Below w.heap.size w w') : But b w w' := ⟨h.os, h.tape, h.output, h.size, fun k hk _ => h.block k hk⟩
theorem But.trans {b : Nat} {w1 w2 w3 : World} (h : But b w1 w2) (k : But b w2 w3) : But b w1 w3 :=
  ⟨k.os.trans h.os, k.tape.trans h.tape, k.output.trans h.output, Nat.le_trans h.size k.size, fun i hi hb => (k.block i (Nat.lt_of_lt_of_le hi h.size) hb).trans (h.block i hi hb)⟩
theorem But.set {b : Nat} {w : World} (o : Nat) (s : Option _) (u : Value) : But b w (w.setCell ⟨b, o, s⟩ u) :=
  ⟨rfl, rfl, rfl, by simp [World.setCell], fun k hk hb => Below.heap_setCell _ _ _ _ hb⟩
theorem But.cell {b : Nat} {w w' : World} (h : But b w w') {p : Addr} (hp : p.block < w.heap.size) (hb : p.block ≠ b) : w'.cell? p = w.cell? p := World.cell?_of_block (w := w) (h.block p.block hp hb)
theorem But.frozen {b : Nat} {w w' : World} (h : But b w w') {p : Addr} (hp : p.block < w.heap.size) (hb : p.block ≠ b) : w'.frozen? p = w.frozen? p := World.frozen?_of_block (w := w) (h.block p.block hp hb)
theorem But.alloc {b : Nat} {w w1 : World} (h : But b w w1) (o : Obj) : But b w (w1.alloc o) :=
  h.trans ⟨rfl, rfl, rfl, by simp, fun k hk _ => Below.heap_alloc _ _ _ hk⟩
theorem But.setNew {b : Nat} {w w1 : World} (h : But b w w1) {p : Addr} (hp : w.heap.size ≤ p.block) (u : Value) : But b w (w1.setCell p u) :=
  ⟨h.os, h.tape, h.output, by simp [World.setCell]; exact h.size, fun k hk hb => (Below.heap_setCell _ _ _ _ (by omega)).trans (h.block k hk hb)⟩
theorem But.setOwn {b : Nat} {w w1 : World} (h : But b w w1) (o : Nat) (u : Value) : But b w (w1.setCell ⟨b, o, none⟩ u) := h.trans (But.set o none u)
theorem heap_setCell_ne {w : World} {p : Addr} {u : Value} {k : Nat} {x : Option Obj} (hk : k ≠ p.block) (h : w.heap[k]? = x) : (w.setCell p u).heap[k]? = x := (Below.heap_setCell _ _ _ _ hk).trans h
theorem heap_alloc_lt {w : World} {o : Obj} {k : Nat} {x : Obj} (h : w.heap[k]? = some x) : (w.alloc o).heap[k]? = some x := (Below.heap_alloc _ _ _ (lt_of_block h)).trans h
set_option maxRecDepth 1000000 in
set_option maxHeartbeats 1600000 in
theorem nextP_any (b : Nat) (r : ByteArray) (w : World) (h : w.heap[b]? = some (.cells #[.string r] 9 (0, 0))) (hs : r.size ≤ 9223372036854775807) :
    Calls Try.prog 117 #[.pointer (some ⟨b, 0, none⟩)] w fun e w' => e = .returned (pcV (pieceL (L r)).1 (pieceL (L r)).2.1) ∧
      w'.heap[b]? = some (.cells #[.string (r.extract (pieceL (L r)).2.2 r.size)] 9 (0, 0)) ∧ But b w w' := by
  have hb := lt_of_block h
  have HF := fun W => Lib.hid (firstPiece_any r W hs)
  have hlen := pieceL_len (L r)
  rw [← size_L] at hlen
  obtain ⟨⟨k, ⟨d, nm⟩, m⟩, hx⟩ : ∃ x, pieceL (L r) = x := ⟨_, rfl⟩
  rw [hx] at HF hlen ⊢
  simp only at hlen ⊢
  rw [show pcV k (d, nm) = .agg #[.int .i64 k, .int .i64 d, .string (mkB nm)] from rfl]
  have hfp : fpV (k, (d, nm), m) = .tuple #[.agg #[.int .i64 k, .int .i64 d, .string (mkB nm)], .int .i64 m] := rfl
  rw [hfp] at HF
  generalize mkB nm = nb at *
  have H := Lib.hid h
  have hcell := cell_of_one h
  have hfree := free_of_one h
  clear h hx hfp
  go_enter Try.func117, Try.ntmps117
  go_wp2_with fail
  refine (HF _).out.mono ?_
  rintro e w2 ⟨rfl, hb2⟩
  obtain ⟨hc, hf⟩ := bcell hb2
  have hs2 := hb2.size
  have hz2 : w.heap.size < w2.heap.size := by simp at hs2; omega
  have hbz : b < w2.heap.size := by omega
  have c0 : w2.cell? ⟨b, 0, none⟩ = some (.string r) := by rw [hc _ _ (by simp; omega)]; go_simp
  have f0 : w2.frozen? ⟨b, 0, none⟩ = false := by rw [hf _ _ (by simp; omega)]; go_simp
  have HB := Lib.hid ((But.of (b := b) (Below.refl w.heap.size w)).alloc (.cells #[.int .i64 0, .int .i64 0, .string ⟨#[]⟩] 124))
  have HB2 := Lib.hid (HB.out.trans (But.of hb2))
  have H2 := Lib.hid ((hb2.block b (by simp; omega)).trans (heap_alloc_lt H.out))
  go_wp2
  refine bodyPost_ret (v := .agg #[.int .i64 k, .int .i64 d, .string nb]) (by simp [results, Try.results117, go_sem, hc, hz2, hbz]) rfl ⟨rfl, ?_, ?_⟩
  · exact heap_alloc_lt (heap_setCell_ne (by simp; omega) (heap_setCell_ne (by simp; omega) (heap_setCell_ne (by simp; omega) (one_setCell H2.out))))
  · exact ((((HB2.out.setOwn 0 _).setNew (Nat.le_refl _) _).setNew (Nat.le_refl _) _).setNew (Nat.le_refl _) _).alloc _
end Go.Proofs.Ytcgloepfnnfioaa
