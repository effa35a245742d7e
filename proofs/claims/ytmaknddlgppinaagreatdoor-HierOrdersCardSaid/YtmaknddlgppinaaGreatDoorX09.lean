/-
  CUT and joined from the texts of this seat: D4 D5 D7
-/
import Derived.Test.YtmaknddlgppinaaGreatDoorX08
import Derived.Deep.LoopGhost
import Derived.RegionTactic
import Derived.BigRegion
set_option linter.unusedVariables false
set_option linter.unusedSimpArgs false
/-! D4 -/
namespace Go.Proofs.YtmaknddlgppinaaGreatDoor
open Go.RowKit

def pcV (k : Nat) (p : Ty) : Value := .agg #[.int .i64 k, .int .i64 p.1, .string (mkB p.2)]
def fpV (x : Nat × Ty × Nat) : Value := .tuple #[pcV x.1 x.2.1, .int .i64 x.2.2]
theorem ftV_none : ftV none = .tuple #[.agg #[.int .i64 0, .string ⟨#[]⟩], .int .i64 0] := rfl
theorem ftV_some (p : Ty) : ftV (some p) = .tuple #[.agg #[.int .i64 p.1, .string (mkB p.2)], .int .i64 (tlen p)] := rfl
theorem beq_toNat {c : UInt8} {x : Nat} (hx : x < 256) (h : c ≠ UInt8.ofNat x) : ((c.toNat : Int) == (x : Int)) = false := by
  rw [beq_eq_false_iff_ne]
  intro e
  apply h
  have e' : c.toNat = x := by omega
  exact UInt8.toNat_inj.1 (by rw [e', UInt8.toNat_ofNat']; omega)
set_option maxRecDepth 1000000 in
set_option maxHeartbeats 1600000 in
theorem firstPiece_any (s : ByteArray) (w : World) (hs : s.size ≤ 9223372036854775807) :
    Calls Tryz.prog 199 #[.string s] w fun e w' => e = .returned (fpV (pieceL (L s))) ∧ Below w.heap.size w w' := by
  have HBE := Lib.hid ((Below.refl w.heap.size w).alloc (Nat.le_refl _) (.cells #[.int .i64 0, .int .i64 0, .string ⟨#[]⟩] 221))
  cases hL : L s with
  | nil =>
    have hz : s.size = 0 := by rw [size_L, hL]; rfl
    have e1 := nil_of0 hz
    have e2 := emp_of0 hz
    clear hL hz
    show Calls Tryz.prog 199 #[.string s] w fun e w' => e = .returned (.tuple #[.agg #[.int .i64 1, .int .i64 0, .string ⟨#[]⟩], .int .i64 0]) ∧ Below w.heap.size w w'
    go_enter Tryz.func199, Tryz.ntmps199
    go_wp2
    refine bodyPost_ret (v := .tuple #[.agg #[.int .i64 1, .int .i64 0, .string ⟨#[]⟩], .int .i64 0]) (by simp [results, Tryz.results199, go_sem]) rfl ⟨rfl, ?_⟩
    exact (Below.refl _ _).alloc (Nat.le_refl _) _
  | cons c t =>
    obtain ⟨hp, hc⟩ := head_at hL
    have e1 := ne_ofpos hp
    have e2 := emp_ofpos hp
    by_cases h40 : c = 40
    · subst h40
      have hat : ((s[0]'hp).toNat : Int) = 40 := by rw [hc]; rfl
      clear hL hc
      show Calls Tryz.prog 199 #[.string s] w fun e w' => e = .returned (.tuple #[.agg #[.int .i64 2, .int .i64 0, .string ⟨#[]⟩], .int .i64 1]) ∧ Below w.heap.size w w'
      go_enter Tryz.func199, Tryz.ntmps199
      go_wp2
      refine bodyPost_ret (v := .tuple #[.agg #[.int .i64 2, .int .i64 0, .string ⟨#[]⟩], .int .i64 1]) (by simp [results, Tryz.results199, go_sem]) rfl ⟨rfl, ?_⟩
      exact (Below.refl _ _).alloc (Nat.le_refl _) _
    by_cases h41 : c = 41
    · subst h41
      have hat : ((s[0]'hp).toNat : Int) = 41 := by rw [hc]; rfl
      clear hL hc h40
      show Calls Tryz.prog 199 #[.string s] w fun e w' => e = .returned (.tuple #[.agg #[.int .i64 3, .int .i64 0, .string ⟨#[]⟩], .int .i64 1]) ∧ Below w.heap.size w w'
      go_enter Tryz.func199, Tryz.ntmps199
      go_wp2
      refine bodyPost_ret (v := .tuple #[.agg #[.int .i64 3, .int .i64 0, .string ⟨#[]⟩], .int .i64 1]) (by simp [results, Tryz.results199, go_sem]) rfl ⟨rfl, ?_⟩
      exact (Below.refl _ _).alloc (Nat.le_refl _) _
    by_cases h86 : c = 86
    · subst h86
      have hat : ((s[0]'hp).toNat : Int) = 86 := by rw [hc]; rfl
      clear hL hc h40 h41
      show Calls Tryz.prog 199 #[.string s] w fun e w' => e = .returned (.tuple #[.agg #[.int .i64 4, .int .i64 0, .string ⟨#[]⟩], .int .i64 1]) ∧ Below w.heap.size w w'
      go_enter Tryz.func199, Tryz.ntmps199
      go_wp2
      refine bodyPost_ret (v := .tuple #[.agg #[.int .i64 4, .int .i64 0, .string ⟨#[]⟩], .int .i64 1]) (by simp [results, Tryz.results199, go_sem]) rfl ⟨rfl, ?_⟩
      exact (Below.refl _ _).alloc (Nat.le_refl _) _
    have a1 : (((s[0]'hp).toNat : Int) == 40) = false := by rw [hc]; exact beq_toNat (x := 40) (by omega) h40
    have a2 : (((s[0]'hp).toNat : Int) == 41) = false := by rw [hc]; exact beq_toNat (x := 41) (by omega) h41
    have a3 : (((s[0]'hp).toNat : Int) == 86) = false := by rw [hc]; exact beq_toNat (x := 86) (by omega) h86
    have HF := fun W => Lib.hid (firstType_any s W hs)
    rw [hL] at HF
    have hpc := pieceL_cons c t
    rw [if_neg h40, if_neg h41, if_neg h86] at hpc
    rw [hpc]
    cases hf : firstL (c :: t) with
    | none =>
      rw [hf, ftV_none] at HF
      clear hL hc hpc hf h40 h41 h86
      show Calls Tryz.prog 199 #[.string s] w fun e w' => e = .returned (.tuple #[.agg #[.int .i64 0, .int .i64 0, .string ⟨#[]⟩], .int .i64 0]) ∧ Below w.heap.size w w'
      go_enter Tryz.func199, Tryz.ntmps199
      go_wp2_with fail
      refine (HF _).out.mono ?_
      rintro e w2 ⟨rfl, hb2⟩
      obtain ⟨hc, hf⟩ := bcell hb2
      have hs2 := hb2.size
      have hz2 : w.heap.size < w2.heap.size := by simp at hs2; omega
      have HB2 := Lib.hid (HBE.out.trans (hb2.mono (by simp)))
      go_wp2
      refine bodyPost_ret (v := .tuple #[.agg #[.int .i64 0, .int .i64 0, .string ⟨#[]⟩], .int .i64 0]) (by simp [results, Tryz.results199, go_sem, hc, hz2]) rfl ⟨rfl, ?_⟩
      exact (((HB2.out.setCell (Nat.le_refl _) _).setCell (Nat.le_refl _) _).setCell (Nat.le_refl _) _).alloc (by simp; omega) _
    | some p =>
      have htp := tlen_pos p
      have hn0 : (((tlen p : Nat) : Int) == 0) = false := by rw [beq_eq_false_iff_ne]; omega
      rw [hf, ftV_some] at HF
      show Calls Tryz.prog 199 #[.string s] w fun e w' => e = .returned (.tuple #[.agg #[.int .i64 5, .int .i64 p.1, .string (mkB p.2)], .int .i64 (tlen p)]) ∧ Below w.heap.size w w'
      generalize tlen p = m at *
      generalize mkB p.2 = nm at *
      generalize p.1 = d at *
      clear hL hc hpc hf h40 h41 h86 htp
      go_enter Tryz.func199, Tryz.ntmps199
      go_wp2_with fail
      refine (HF _).out.mono ?_
      rintro e w2 ⟨rfl, hb2⟩
      obtain ⟨hc, hf⟩ := bcell hb2
      have hs2 := hb2.size
      have hz2 : w.heap.size < w2.heap.size := by simp at hs2; omega
      have HB2 := Lib.hid (HBE.out.trans (hb2.mono (by simp)))
      go_wp2
      refine bodyPost_ret (v := .tuple #[.agg #[.int .i64 5, .int .i64 d, .string nm], .int .i64 m]) (by simp [results, Tryz.results199, go_sem, hc, hz2]) rfl ⟨rfl, ?_⟩
      exact (((HB2.out.setCell (Nat.le_refl _) _).setCell (Nat.le_refl _) _).setCell (Nat.le_refl _) _).alloc (by simp; omega) _
theorem pieces_any (s : ByteArray) (w : World) :
    Calls Tryz.prog 194 #[.string s] w fun e w' => e = .returned (.func (.func 198) #[] #[.pointer (some ⟨w.heap.size, 0, none⟩)]) ∧ w' = w.alloc (.cells #[.string s] 9) := by
  go_enter Tryz.func194, Tryz.ntmps194
  go_wp2
  go_ret
  exact ⟨rfl, rfl⟩
/-- All but block b is as it was. -/
structure But (b : Nat) (w w' : World) : Prop where
  os : w'.os = w.os
  tape : w'.tape = w.tape
  output : w'.output = w.output
  size : w.heap.size ≤ w'.heap.size
  block : ∀ k, k < w.heap.size → k ≠ b → w'.heap[k]? = w.heap[k]?
theorem But.below {b B : Nat} {w w' : World} (h : But b w w') (hB : B ≤ b) (hw : B ≤ w.heap.size) : Below B w w' :=
  ⟨h.os, h.tape, h.output, h.size, fun k hk => h.block k (by omega) (by omega)⟩
theorem But.of {b : Nat} {w w' : World} (h : Below w.heap.size w w') : But b w w' := ⟨h.os, h.tape, h.output, h.size, fun k hk _ => h.block k hk⟩
theorem But.trans {b : Nat} {w1 w2 w3 : World} (h : But b w1 w2) (k : But b w2 w3) : But b w1 w3 :=
  ⟨k.os.trans h.os, k.tape.trans h.tape, k.output.trans h.output, Nat.le_trans h.size k.size, fun i hi hb => (k.block i (Nat.lt_of_lt_of_le hi h.size) hb).trans (h.block i hi hb)⟩
theorem But.set {b : Nat} {w : World} (o : Nat) (s : Option _) (u : Value) : But b w (w.setCell ⟨b, o, s⟩ u) :=
  ⟨rfl, rfl, rfl, by simp [World.setCell], fun k hk hb => Below.heap_setCell _ _ _ _ hb⟩
theorem But.cell {b : Nat} {w w' : World} (h : But b w w') {p : Addr} (hp : p.block < w.heap.size) (hb : p.block ≠ b) : w'.cell? p = w.cell? p := World.cell?_of_block (w := w) (h.block p.block hp hb)
theorem But.frozen {b : Nat} {w w' : World} (h : But b w w') {p : Addr} (hp : p.block < w.heap.size) (hb : p.block ≠ b) : w'.frozen? p = w.frozen? p := World.frozen?_of_block (w := w) (h.block p.block hp hb)
theorem But.alloc {b : Nat} {w w1 : World} (h : But b w w1) (o : Obj) : But b w (w1.alloc o) :=
  h.trans ⟨rfl, rfl, rfl, by simp, fun k hk _ => Below.heap_alloc _ _ _ hk⟩
theorem But.setNew {b : Nat} {w w1 : World} (h : But b w w1) {p : Addr} (hp : w.heap.size ≤ p.block) (u : Value) : But b w (w1.setCell p u) :=
  ⟨h.os, h.tape, h.output, by simp [World.setCell]; exact h.size, fun k hk hb => (Below.heap_setCell _ _ _ _ (by omega)).trans (h.block k hk hb)⟩
theorem But.setOwn {b : Nat} {w w1 : World} (h : But b w w1) (o : Nat) (u : Value) : But b w (w1.setCell ⟨b, o, none⟩ u) := h.trans (But.set o none u)
theorem heap_setCell_ne {w : World} {p : Addr} {u : Value} {k : Nat} {x : Option Obj} (hk : k ≠ p.block) (h : w.heap[k]? = x) : (w.setCell p u).heap[k]? = x := (Below.heap_setCell _ _ _ _ hk).trans h
theorem heap_alloc_lt {w : World} {o : Obj} {k : Nat} {x : Obj} (h : w.heap[k]? = some x) : (w.alloc o).heap[k]? = some x := (Below.heap_alloc _ _ _ (lt_of_block h)).trans h
set_option maxRecDepth 1000000 in
set_option maxHeartbeats 1600000 in
theorem nextP_any (b : Nat) (r : ByteArray) (w : World) (h : w.heap[b]? = some (.cells #[.string r] 9 (0, 0))) (hs : r.size ≤ 9223372036854775807) :
    Calls Tryz.prog 198 #[.pointer (some ⟨b, 0, none⟩)] w fun e w' => e = .returned (pcV (pieceL (L r)).1 (pieceL (L r)).2.1) ∧
      w'.heap[b]? = some (.cells #[.string (r.extract (pieceL (L r)).2.2 r.size)] 9 (0, 0)) ∧ But b w w' := by
  have hb := lt_of_block h
  have HF := fun W => Lib.hid (firstPiece_any r W hs)
  have hlen := pieceL_len (L r)
  rw [← size_L] at hlen
  obtain ⟨⟨k, ⟨d, nm⟩, m⟩, hx⟩ : ∃ x, pieceL (L r) = x := ⟨_, rfl⟩
  rw [hx] at HF hlen ⊢
  simp only at hlen ⊢
  rw [show pcV k (d, nm) = .agg #[.int .i64 k, .int .i64 d, .string (mkB nm)] from rfl]
  have hfp : fpV (k, (d, nm), m) = .tuple #[.agg #[.int .i64 k, .int .i64 d, .string (mkB nm)], .int .i64 m] := rfl
  rw [hfp] at HF
  generalize mkB nm = nb at *
  have H := Lib.hid h
  have hcell := cell_of_one h
  have hfree := free_of_one h
  clear h hx hfp
  go_enter Tryz.func198, Tryz.ntmps198
  go_wp2_with fail
  refine (HF _).out.mono ?_
  rintro e w2 ⟨rfl, hb2⟩
  obtain ⟨hc, hf⟩ := bcell hb2
  have hs2 := hb2.size
  have hz2 : w.heap.size < w2.heap.size := by simp at hs2; omega
  have hbz : b < w2.heap.size := by omega
  have c0 : w2.cell? ⟨b, 0, none⟩ = some (.string r) := by rw [hc _ _ (by simp; omega)]; go_simp
  have f0 : w2.frozen? ⟨b, 0, none⟩ = false := by rw [hf _ _ (by simp; omega)]; go_simp
  have HB := Lib.hid ((But.of (b := b) (Below.refl w.heap.size w)).alloc (.cells #[.int .i64 0, .int .i64 0, .string ⟨#[]⟩] 221))
  have HB2 := Lib.hid (HB.out.trans (But.of hb2))
  have H2 := Lib.hid ((hb2.block b (by simp; omega)).trans (heap_alloc_lt H.out))
  go_wp2
  refine bodyPost_ret (v := .agg #[.int .i64 k, .int .i64 d, .string nb]) (by simp [results, Tryz.results198, go_sem, hc, hz2, hbz]) rfl ⟨rfl, ?_, ?_⟩
  · exact heap_alloc_lt (heap_setCell_ne (by simp; omega) (heap_setCell_ne (by simp; omega) (heap_setCell_ne (by simp; omega) (one_setCell H2.out))))
  · exact ((((HB2.out.setOwn 0 _).setNew (Nat.le_refl _) _).setNew (Nat.le_refl _) _).setNew (Nat.le_refl _) _).alloc _
end Go.Proofs.YtmaknddlgppinaaGreatDoor
/-! D5 -/
namespace Go.Proofs.YtmaknddlgppinaaGreatDoor
open Go.RowKit

theorem pieceL_end {l : List UInt8} : (pieceL l).1 = 1 ↔ l = [] := by
  cases l with
  | nil => exact ⟨fun _ => rfl, fun _ => rfl⟩
  | cons c t =>
    refine ⟨fun h => ?_, fun h => by simp at h⟩
    cases hf : firstL (c :: t) with
    | some p => rw [pieceL_type hf] at h; simp at h
    | none =>
      rw [pieceL_cons, hf] at h
      simp only at h
      repeat' split at h
      all_goals simp at h
/-- What 'Field' answers. -/
def fdV : Option Ty → Value
  | none => .tuple #[.agg #[.int .i64 0, .string ⟨#[]⟩], .int .i64 9]
  | some p => .tuple #[.agg #[.int .i64 p.1, .string (mkB p.2)], .int .i64 0]
theorem heap_new (w : World) (o : Obj) : (w.alloc o).heap[w.heap.size]? = some o := by
  show (w.heap.push o)[w.heap.size]? = _
  simp
theorem heap_new2 (w : World) (o1 o2 : Obj) : ((w.alloc o1).alloc o2).heap[w.heap.size + 1]? = some o2 := by
  have := heap_new (w.alloc o1) o2
  rwa [show (w.alloc o1).heap.size = w.heap.size + 1 by simp] at this
theorem butcell {b : Nat} {W w1 : World} (h : But b W w1) : (∀ q o, q < W.heap.size → q ≠ b → w1.cell? ⟨q, o, none⟩ = W.cell? ⟨q, o, none⟩) ∧ (∀ q o, q < W.heap.size → q ≠ b → w1.frozen? ⟨q, o, none⟩ = W.frozen? ⟨q, o, none⟩) :=
  ⟨fun q o hq hb => h.cell (p := ⟨q, o, none⟩) hq hb, fun q o hq hb => h.frozen (p := ⟨q, o, none⟩) hq hb⟩
theorem cells_of {w : World} {b : Nat} {cs : Array Value} {t : TypeId} (h : w.heap[b]? = some (.cells cs t (0, 0))) (i : Nat) : w.cell? ⟨b, i, none⟩ = cs[i]? := by simp [World.cell?, h]
theorem free_of {w : World} {b : Nat} {cs : Array Value} {t : TypeId} (h : w.heap[b]? = some (.cells cs t (0, 0))) (i : Nat) : w.frozen? ⟨b, i, none⟩ = false := by simp [World.frozen?, h]
theorem But.keep {b q : Nat} {w w' : World} {o : Obj} (h : But b w w') (hq : q ≠ b) (hx : w.heap[q]? = some o) : w'.heap[q]? = some o := (h.block q (lt_of_block hx) hq).trans hx
theorem Below.keep {B q : Nat} {w w' : World} {o : Obj} (h : Below B w w') (hq : q < B) (hx : w.heap[q]? = some o) : w'.heap[q]? = some o := (h.block q hq).trans hx
theorem run_kind (a b c : Value) (W : World) : (Instr.field 221 (.agg #[a, b, c]) 0).run Tryz.prog W = .ok a W := by
  simp [Instr.field, go_sem]; rfl
theorem next_new {k : Nat} {p : Ty} {n b : Nat} (r r' : ByteArray) (w : World) (hx : pieceL (L r) = (k, p, n)) (hr : r.extract n r.size = r') (hs : r.size ≤ 9223372036854775807) (h : w.heap[b]? = some (.cells #[.string r] 9 (0, 0))) :
    Calls Tryz.prog 198 #[.pointer (some ⟨b, 0, none⟩)] w fun e w' => e = .returned (.agg #[.int .i64 k, .int .i64 p.1, .string (mkB p.2)]) ∧ w'.heap[b]? = some (.cells #[.string r'] 9 (0, 0)) ∧ But b w w' := by
  have := nextP_any b r w h hs
  rw [hx] at this
  simp only at this
  rw [hr] at this
  exact this
set_option maxRecDepth 1000000 in
set_option maxHeartbeats 1600000 in
theorem Field_any (s : ByteArray) (w : World) (hs : s.size ≤ 9223372036854775807) :
    Calls Tryz.prog 193 #[.string s] w fun e w' => e = .returned (fdV (fieldL (L s))) ∧ Below w.heap.size w w' := by
  obtain ⟨⟨k, p, n⟩, hx⟩ : ∃ x, pieceL (L s) = x := ⟨_, rfl⟩
  obtain ⟨r, hr⟩ : ∃ r, s.extract n s.size = r := ⟨_, rfl⟩
  have HN1 := fun W b => Lib.hid (next_new (b := b) s r W hx hr hs)
  cases hf : firstL (L s) with
  | none =>
    have hk := (pieceL_none hf).1
    rw [hx] at hk
    simp only at hk
    have hk1 : (((k : Nat) : Int) == 5) = false := by rw [beq_eq_false_iff_ne]; omega
    have hk2 : (((k : Nat) : Int) != 5) = true := by rw [bne, hk1]; rfl
    have hv : fieldL (L s) = none := by unfold fieldL; rw [hf]
    rw [hv]
    show Calls Tryz.prog 193 #[.string s] w fun e w' => e = .returned (.tuple #[.agg #[.int .i64 0, .string ⟨#[]⟩], .int .i64 9]) ∧ Below w.heap.size w w'
    generalize mkB p.2 = nb at *
    generalize p.1 = d at *
    clear hx hr hf hv hk
    go_enter Tryz.func193, Tryz.ntmps193
    go_wp2_with fail
    refine (pieces_any _ _).mono ?_
    rintro e w1 ⟨rfl, rfl⟩
    go_wp2_with fail
    refine ((HN1 _ _).out (heap_new2 w _ _)).mono ?_
    rintro e w2 ⟨rfl, h2, hbt⟩
    obtain ⟨hc, hf⟩ := butcell hbt
    have hs2 := hbt.size
    have hz2 : w.heap.size + 1 < w2.heap.size := by simp at hs2; omega
    have hz3 : w.heap.size < w2.heap.size := by omega
    have c0 : w2.cell? ⟨w.heap.size, 0, none⟩ = some (.int .i64 0) := by rw [hc _ _ (by simp; omega) (by omega)]; go_simp
    have c1 : w2.cell? ⟨w.heap.size, 1, none⟩ = some (.string ⟨#[]⟩) := by rw [hc _ _ (by simp; omega) (by omega)]; go_simp
    have f0 : w2.frozen? ⟨w.heap.size, 0, none⟩ = false := by rw [hf _ _ (by simp; omega) (by omega)]; go_simp
    have f1 : w2.frozen? ⟨w.heap.size, 1, none⟩ = false := by rw [hf _ _ (by simp; omega) (by omega)]; go_simp
    have HB := Lib.hid (((Below.refl w.heap.size w).alloc (Nat.le_refl _) _).alloc (by simp) _ |>.trans (hbt.below (B := w.heap.size) (by omega) (by simp; omega)))
    clear hc hf h2 hbt hs2
    go_wp2
    refine bodyPost_ret (v := .tuple #[.agg #[.int .i64 0, .string ⟨#[]⟩], .int .i64 9]) (by simp [results, Tryz.results193, go_sem, hz2, hz3, c0, c1]) rfl ⟨rfl, ?_⟩
    exact ((HB.out.setCell (Nat.le_refl _) _).setCell (Nat.le_refl _) _).alloc (by simp; omega) _
  | some q =>
    have hpt := pieceL_type hf
    rw [hx] at hpt
    obtain ⟨rfl, rfl, rfl⟩ : k = 5 ∧ p = q ∧ n = tlen q := by simpa using hpt
    have hLr : L r = (L s).drop (tlen p) := by rw [← hr]; exact Lib.extract_to_end s _
    have hrs : r.size ≤ 9223372036854775807 := by rw [size_L, hLr, List.length_drop, ← size_L]; omega
    obtain ⟨⟨k2, p2, n2⟩, hx2⟩ : ∃ x, pieceL (L r) = x := ⟨_, rfl⟩
    obtain ⟨r2, hr2⟩ : ∃ r2, r.extract n2 r.size = r2 := ⟨_, rfl⟩
    have HN2 := fun W b => Lib.hid (next_new (b := b) r r2 W hx2 hr2 hrs)
    have hend := pieceL_end (l := L r)
    rw [hx2] at hend
    simp only at hend
    have hfl := firstL_len hf
    have hnil : L r = [] ↔ tlen p = (L s).length := by
      rw [hLr, List.drop_eq_nil_iff]
      omega
    by_cases hk2 : k2 = 1
    · have hv : fieldL (L s) = some p := by unfold fieldL; rw [hf]; exact if_pos (hnil.1 (hend.1 hk2))
      rw [hv]
      show Calls Tryz.prog 193 #[.string s] w fun e w' => e = .returned (.tuple #[.agg #[.int .i64 p.1, .string (mkB p.2)], .int .i64 0]) ∧ Below w.heap.size w w'
      subst hk2
      generalize mkB p2.2 = nb2 at *
      generalize p2.1 = d2 at *
      generalize mkB p.2 = nb at *
      generalize p.1 = d at *
      clear hx hr hf hv hpt hLr hx2 hr2 hend hfl hnil
      go_enter Tryz.func193, Tryz.ntmps193
      go_wp2_with fail
      refine (pieces_any _ _).mono ?_
      rintro e w1 ⟨rfl, rfl⟩
      go_wp2_with fail
      refine ((HN1 _ _).out (heap_new2 w _ _)).mono ?_
      rintro e w2 ⟨rfl, h2, hbt⟩
      have hs2 := hbt.size
      have hz2 : w.heap.size + 1 < w2.heap.size := by simp at hs2; omega
      have R2 := Lib.hid (hbt.keep (q := w.heap.size) (by omega) (heap_alloc_lt (heap_new w _)))
      have H2 := Lib.hid h2
      have HB := Lib.hid (((Below.refl w.heap.size w).alloc (Nat.le_refl _) _).alloc (by simp) _ |>.trans (hbt.below (B := w.heap.size) (by omega) (by simp; omega)))
      clear h2 hbt hs2
      go_wp2_with fail
      refine ((HN2 _ _).out (heap_alloc_lt H2.out)).mono ?_
      rintro e w3 ⟨rfl, h3, hbt3⟩
      have hs3 := hbt3.size
      have hz4 : w2.heap.size < w3.heap.size := by simp at hs3; omega
      have hz5 : w.heap.size < w3.heap.size := by omega
      have R3 := hbt3.keep (q := w.heap.size) (by omega) (heap_alloc_lt R2.out)
      have P3 := hbt3.keep (q := w2.heap.size) (by omega) (heap_new w2 _)
      have c0 : w3.cell? ⟨w.heap.size, 0, none⟩ = some (.int .i64 0) := cells_of R3 0
      have c1 : w3.cell? ⟨w.heap.size, 1, none⟩ = some (.string ⟨#[]⟩) := cells_of R3 1
      have f0 := free_of R3 0
      have f1 := free_of R3 1
      have c2 : w3.cell? ⟨w2.heap.size, 1, none⟩ = some (.int .i64 (d : Int)) := cells_of P3 1
      have c3 : w3.cell? ⟨w2.heap.size, 2, none⟩ = some (.string nb) := cells_of P3 2
      have HB3 := Lib.hid ((HB.out.alloc (by omega) _).trans (hbt3.below (B := w.heap.size) (by omega) (by simp; omega)))
      clear R3 P3 hbt3 h3 hs3
      have hfi := run_kind
      go_wp2
      refine bodyPost_ret (v := .tuple #[.agg #[.int .i64 d, .string nb], .int .i64 0]) (by simp [results, Tryz.results193, go_sem, c0, c1]) rfl ⟨rfl, ?_⟩
      exact (HB3.out.setCell (Nat.le_refl _) _).setCell (Nat.le_refl _) _
    · have hv : fieldL (L s) = none := by unfold fieldL; rw [hf]; exact if_neg (fun e => hk2 (hend.2 (hnil.2 e)))
      rw [hv]
      show Calls Tryz.prog 193 #[.string s] w fun e w' => e = .returned (.tuple #[.agg #[.int .i64 0, .string ⟨#[]⟩], .int .i64 9]) ∧ Below w.heap.size w w'
      have hk3 : (((k2 : Nat) : Int) == 1) = false := by rw [beq_eq_false_iff_ne]; omega
      have hk4 : (((k2 : Nat) : Int) != 1) = true := by rw [bne, hk3]; rfl
      generalize mkB p2.2 = nb2 at *
      generalize p2.1 = d2 at *
      generalize mkB p.2 = nb at *
      generalize p.1 = d at *
      clear hx hr hf hv hpt hLr hx2 hr2 hend hfl hnil hk2
      go_enter Tryz.func193, Tryz.ntmps193
      go_wp2_with fail
      refine (pieces_any _ _).mono ?_
      rintro e w1 ⟨rfl, rfl⟩
      go_wp2_with fail
      refine ((HN1 _ _).out (heap_new2 w _ _)).mono ?_
      rintro e w2 ⟨rfl, h2, hbt⟩
      have hs2 := hbt.size
      have hz2 : w.heap.size + 1 < w2.heap.size := by simp at hs2; omega
      have R2 := Lib.hid (hbt.keep (q := w.heap.size) (by omega) (heap_alloc_lt (heap_new w _)))
      have H2 := Lib.hid h2
      have HB := Lib.hid (((Below.refl w.heap.size w).alloc (Nat.le_refl _) _).alloc (by simp) _ |>.trans (hbt.below (B := w.heap.size) (by omega) (by simp; omega)))
      clear h2 hbt hs2
      go_wp2_with fail
      refine ((HN2 _ _).out (heap_alloc_lt H2.out)).mono ?_
      rintro e w3 ⟨rfl, h3, hbt3⟩
      have hs3 := hbt3.size
      have hz4 : w2.heap.size < w3.heap.size := by simp at hs3; omega
      have hz5 : w.heap.size < w3.heap.size := by omega
      have R3 := hbt3.keep (q := w.heap.size) (by omega) (heap_alloc_lt R2.out)
      have c0 : w3.cell? ⟨w.heap.size, 0, none⟩ = some (.int .i64 0) := cells_of R3 0
      have c1 : w3.cell? ⟨w.heap.size, 1, none⟩ = some (.string ⟨#[]⟩) := cells_of R3 1
      have f0 := free_of R3 0
      have f1 := free_of R3 1
      have HB3 := Lib.hid ((HB.out.alloc (by omega) _).trans (hbt3.below (B := w.heap.size) (by omega) (by simp; omega)))
      clear R3 hbt3 h3 hs3
      have hfi := run_kind
      go_wp2
      refine bodyPost_ret (v := .tuple #[.agg #[.int .i64 0, .string ⟨#[]⟩], .int .i64 9]) (by simp [results, Tryz.results193, go_sem, c0, c1]) rfl ⟨rfl, ?_⟩
      exact (HB3.out.setCell (Nat.le_refl _) _).setCell (Nat.le_refl _) _
end Go.Proofs.YtmaknddlgppinaaGreatDoor
/-! D7 -/
namespace Go.Proofs.YtmaknddlgppinaaGreatDoor
open Go.RowKit

theorem cells_setCell {w : World} {b i : Nat} {cs : Array Value} {u : Value} {t : TypeId} (h : w.heap[b]? = some (.cells cs t (0, 0))) : (w.setCell ⟨b, i, none⟩ u).heap[b]? = some (.cells (cs.setIfInBounds i u) t (0, 0)) := by
  have hlt := lt_of_block h
  have h' : w.heap[b] = .cells cs t (0, 0) := by simpa [Array.getElem?_eq_getElem hlt] using h
  show (w.heap.modify b _)[b]? = _
  rw [Array.getElem?_eq_getElem (by simpa using hlt), Array.getElem_modify_self, h']
  rfl
theorem drew_heap {w : World} {b : Nat} {o : Obj} (h : w.heap[b]? = some o) : w.drew.heap[b]? = some o := h
/-- The cells of a row of types. -/
def tcells (xs : List Ty) : List Value := xs.flatMap fun p => [.int .i64 p.1, .string (mkB p.2)]
theorem tcells_append (a b : List Ty) : tcells (a ++ b) = tcells a ++ tcells b := by simp [tcells]
theorem tcells_one (p : Ty) : tcells [p] = [.int .i64 p.1, .string (mkB p.2)] := rfl
theorem Tryz.info31 : (Tryz.prog.info? 31).map (fun i => (i.zero, i.size, i.bytes)) = some (some (.agg #[.int .i64 0, .string ⟨#[]⟩]), 2, 24) := by kernel_rfl
/-- What 'Method' answers: the arguments, what is returned, is it void, the error. -/
def res : Option (List Ty × Option Ty) → List Ty × Ty × Bool × Int
  | none => ([], (0, []), false, 9)
  | some (xs, q) => if xs.length ≤ 16 then (xs, q.getD (0, []), q.isNone, 0) else ([], (0, []), false, 3)
def sgV (v : Value) (x : List Ty × Ty × Bool × Int) : Value := .tuple #[.agg #[v, .int .i64 x.2.1.1, .string (mkB x.2.1.2), .bool x.2.2.1], .int .i64 x.2.2.2]
theorem res_none : res none = ([], (0, []), false, 9) := rfl
/-- At the head of the loop: the texts before and behind the piece that was read, the arguments so far. -/
structure Loop (l l0 : List UInt8) (done : List Ty) : Prop where
  all : args l = (done ++ (args l0).1, (args l0).2)
theorem Loop.start (l : List UInt8) : Loop l l [] := ⟨by simp⟩
theorem Loop.next {l l0 : List UInt8} {done : List Ty} {p : Ty} (h : Loop l l0 done) (hf : firstL l0 = some p) : Loop l (l0.drop (tlen p)) (done ++ [p]) :=
  ⟨by rw [h.all, args_some hf]; simp⟩
theorem Loop.stop {l l0 : List UInt8} {done : List Ty} (h : Loop l l0 done) (hf : firstL l0 = none) : args l = (done, l0) := by
  rw [h.all, args_none hf]; simp
theorem drop_pos_cons {l : List UInt8} {c : UInt8} {t : List UInt8} (h : l = c :: t) : l.drop 1 = t := by rw [h]; rfl
/-- What the pieces say of a text. -/
theorem meth_open {l : List UInt8} (h : (pieceL l).1 ≠ 2) : methL l = none := by
  unfold methL
  split
  · exact absurd rfl h
  · rfl
theorem open_cons {l : List UInt8} (h : (pieceL l).1 = 2) : (pieceL l).2.2 = 1 ∧ ∃ t, l = 40 :: t := by
  cases l with
  | nil => exact absurd h (by decide)
  | cons c t =>
    cases hf : firstL (c :: t) with
    | some p => rw [pieceL_type hf] at h; simp at h
    | none =>
      rw [pieceL_cons, hf] at h ⊢
      by_cases h1 : c = 40
      · subst h1; exact ⟨rfl, t, rfl⟩
      · rw [if_neg h1] at h
        split at h
        · simp at h
        split at h <;> simp at h
theorem close_cons {l : List UInt8} (h : (pieceL l).1 = 3) : (pieceL l).2.2 = 1 ∧ ∃ t, l = 41 :: t := by
  cases l with
  | nil => exact absurd h (by decide)
  | cons c t =>
    cases hf : firstL (c :: t) with
    | some p => rw [pieceL_type hf] at h; simp at h
    | none =>
      rw [pieceL_cons, hf] at h ⊢
      by_cases h1 : c = 40
      · subst h1; simp at h
      rw [if_neg h1] at h ⊢
      by_cases h2 : c = 41
      · subst h2; exact ⟨rfl, t, rfl⟩
      · rw [if_neg h2] at h
        split at h <;> simp at h
theorem void_cons {l : List UInt8} (h : (pieceL l).1 = 4) : (pieceL l).2.2 = 1 ∧ (pieceL l).2.1 = (0, []) ∧ ∃ t, l = 86 :: t := by
  cases l with
  | nil => exact absurd h (by decide)
  | cons c t =>
    cases hf : firstL (c :: t) with
    | some p => rw [pieceL_type hf] at h; simp at h
    | none =>
      rw [pieceL_cons, hf] at h ⊢
      by_cases h1 : c = 40
      · subst h1; simp at h
      rw [if_neg h1] at h ⊢
      by_cases h2 : c = 41
      · subst h2; simp at h
      rw [if_neg h2] at h ⊢
      by_cases h3 : c = 86
      · subst h3; exact ⟨rfl, rfl, t, rfl⟩
      · rw [if_neg h3] at h; simp at h
theorem type_of {l : List UInt8} (h : (pieceL l).1 = 5) : ∃ p, firstL l = some p ∧ pieceL l = (5, p, tlen p) := by
  cases hf : firstL l with
  | some p => exact ⟨p, rfl, pieceL_type hf⟩
  | none => exact absurd h (pieceL_none hf).1
/-- The end of a signature: 'l' begins with the piece behind the arguments. -/
theorem sig_noclose {xs : List Ty} {l : List UInt8} (h : (pieceL l).1 ≠ 3) : sigR (xs, l) = none := by
  unfold sigR
  split
  · rename_i heq
    obtain ⟨_, rfl⟩ := Prod.mk.inj heq
    exact absurd rfl h
  · rfl
theorem sig_close {xs : List Ty} {l : List UInt8} (h : (pieceL l).1 = 3) : sigR (xs, l) = (retL (l.drop 1)).map fun q => (xs, q) := by
  obtain ⟨_, t, rfl⟩ := close_cons h
  rfl
theorem ret_void {l : List UInt8} (h : (pieceL l).1 = 4) : retL l = if l.drop 1 = [] then some none else none := by
  obtain ⟨_, _, t, rfl⟩ := void_cons h
  unfold retL
  cases t with
  | nil => rfl
  | cons c t =>
    have hf : fieldL (86 :: c :: t) = none := by
      unfold fieldL
      have : firstL (86 :: c :: t) = none := by
        cases hf : firstL (86 :: c :: t) with
        | none => rfl
        | some p => exact absurd (firstL_head hf) (by decide)
      rw [this]
    rw [if_neg (by simp), if_neg (by simp), hf]
    rfl
theorem ret_type {l : List UInt8} {p : Ty} (h : firstL l = some p) : retL l = if l.drop (tlen p) = [] then some (some p) else none := by
  have hne : l ≠ [86] := by rintro rfl; exact absurd (firstL_head h) (by decide)
  have hl := firstL_len h
  unfold retL fieldL
  rw [if_neg hne, h]
  simp only [List.drop_eq_nil_iff]
  by_cases hh : tlen p = l.length
  · rw [if_pos hh, if_pos (by omega)]; rfl
  · rw [if_neg hh, if_neg (by omega)]; rfl
theorem ret_other {l : List UInt8} (h4 : (pieceL l).1 ≠ 4) (h5 : (pieceL l).1 ≠ 5) : retL l = none := by
  have hf : firstL l = none := by
    cases hf : firstL l with
    | none => rfl
    | some p => rw [pieceL_type hf] at h5; exact absurd rfl h5
  have hne : l ≠ [86] := by rintro rfl; exact h4 rfl
  unfold retL fieldL
  rw [if_neg hne, hf]
  rfl
end Go.Proofs.YtmaknddlgppinaaGreatDoor
