/-
  WALKS of an instruction that is read.
-/
import Derived.Test.YtjdaaecbnhcoaaaDoorK4
set_option linter.unusedVariables false
set_option linter.unusedSimpArgs false
namespace Go.Proofs.YtjdaaecbnhcoaaaDoor
open Go.RowKit

def zeroIn : Value := .agg #[.int .i64 0, .int .i64 0, .int .i64 0, .slice none 0 0, .slice none 0 0]
/-- What is answered of an instruction. -/
def InE (w : World) (s : ByteArray) (o : Out) (e : Ending) (w' : World) : Prop :=
  (o.e ≠ 0 ∧ e = .returned (.tuple #[zeroIn, .string ⟨#[]⟩, .int .i64 o.e]) ∧ Below w.heap.size w w') ∨
  (o.e = 0 ∧ ∃ kv tv t, e = .returned (.tuple #[.agg #[.int .i64 o.x.pc, .int .i64 o.x.op, .int .i64 o.x.n, kv, tv], .string t, .int .i64 0]) ∧ L t = (L s).drop o.n ∧ IOwn w' w.heap.size kv o.x.keys ∧ IOwn w' w.heap.size tv o.x.to ∧ Below w.heap.size w w')
theorem one_ptr_at (w : World) (a : Value) (q : Nat) (h : w.heap.size = q) : (w.alloc (.cells #[a] 67)).cell? ⟨q, 0, none⟩ = some a := by
  subst h
  exact cells_of (heap_new w _) 0
theorem one_0 {pc : Nat} {r : List UInt8} (h : formP (b1 r 0) = 0) : oneP pc r = ⟨11, default, 0⟩ := by unfold oneP; simp only; rw [if_pos h]
theorem one_45 {pc : Nat} {r : List UInt8} (h : formP (b1 r 0) = 45) : oneP pc r = ⟨0, ⟨pc, (b1 r 0 : Nat), 0, [], []⟩, 1⟩ := by unfold oneP; simp only; rw [h]; simp
theorem one_98 {pc : Nat} {r : List UInt8} (h : formP (b1 r 0) = 98) (h2 : 2 ≤ r.length) : oneP pc r = ⟨0, ⟨pc, (b1 r 0 : Nat), (b1 r 1 : Nat), [], []⟩, 2⟩ := by unfold oneP; simp only; rw [h]; simp; omega
theorem one_98n {pc : Nat} {r : List UInt8} (h : formP (b1 r 0) = 98) (h2 : r.length < 2) : oneP pc r = ⟨5, default, 0⟩ := by unfold oneP; simp only; rw [h]; simp; omega
theorem one_110 {pc : Nat} {r : List UInt8} (h : formP (b1 r 0) = 110) (h2 : 3 ≤ r.length) : oneP pc r = ⟨0, ⟨pc, (b1 r 0 : Nat), b2 r 1, [], []⟩, 3⟩ := by unfold oneP; simp only; rw [h]; simp; omega
theorem one_110n {pc : Nat} {r : List UInt8} (h : formP (b1 r 0) = 110) (h2 : r.length < 3) : oneP pc r = ⟨5, default, 0⟩ := by unfold oneP; simp only; rw [h]; simp; omega
theorem one_106 {pc : Nat} {r : List UInt8} (h : formP (b1 r 0) = 106) (h2 : 3 ≤ r.length) : oneP pc r = ⟨0, ⟨pc, (b1 r 0 : Nat), 0, [], [(pc : Int) + s16 (b2 r 1)]⟩, 3⟩ := by unfold oneP; simp only; rw [h]; simp; omega
theorem one_106n {pc : Nat} {r : List UInt8} (h : formP (b1 r 0) = 106) (h2 : r.length < 3) : oneP pc r = ⟨5, default, 0⟩ := by unfold oneP; simp only; rw [h]; simp; omega
theorem one_115 {pc : Nat} {r : List UInt8} (h : formP (b1 r 0) = 115) (h2 : 5 + 4 * (b2 r 3).toNat ≤ r.length) : oneP pc r = ⟨0, ⟨pc, (b1 r 0 : Nat), 0, keysP r (b2 r 3).toNat, ((pc : Int) + s16 (b2 r 1)) :: tosP pc r (b2 r 3).toNat⟩, 5 + 4 * (b2 r 3).toNat⟩ := by
  unfold oneP
  simp only
  rw [if_neg (by rw [h]; decide), if_neg (by rw [h]; decide), if_neg (by rw [h]; decide), if_neg (by rw [h]; decide), if_neg (by rw [h]; decide), if_neg (by omega), if_neg (by omega)]
theorem one_115n {pc : Nat} {r : List UInt8} (h : formP (b1 r 0) = 115) (h2 : r.length < 5 + 4 * (b2 r 3).toNat) : oneP pc r = ⟨5, default, 0⟩ := by
  unfold oneP
  simp only
  rw [if_neg (by rw [h]; decide), if_neg (by rw [h]; decide), if_neg (by rw [h]; decide), if_neg (by rw [h]; decide), if_neg (by rw [h]; decide)]
  split
  · rfl
  · first | rfl | rw [if_pos h2]
theorem one_115s {pc : Nat} {r : List UInt8} (h : formP (b1 r 0) = 115) (h2 : r.length < 5) : oneP pc r = ⟨5, default, 0⟩ := one_115n h (by omega)
set_option maxRecDepth 1000000 in
set_option maxHeartbeats 12800000 in
theorem readInstr_45 (s : ByteArray) (pc : Nat) (w : World) (hpc : pc ≤ 1000000) (h : 1 ≤ s.size) (hm : s.size ≤ 1000000) (hf : formP (b1 (L s) 0) = 45) :
    Calls Tryd.prog 32 #[.string s, .int .i64 pc] w fun e w' => InE w s (oneP pc (L s)) e w' := by
  obtain ⟨i0, hi, hz0, hz1, hz2⟩ := info3
  have HF := fun W => Form_any (b1 (L s) 0) W
  rw [hf] at HF
  have HONE := Lib.hid hf
  have R0 := Lib.hid (heap_alloc_lt (o := .cells #[.pointer (some ⟨w.heap.size + 1, 1, none⟩)] 67) (heap_alloc_lt (o := .cells #[.int .i64 pc, .int .i64 0, .int .i64 0, .slice none 0 0, .slice none 0 0] 43) (heap_new w (.cells #[.int .i64 0, .int .i64 0, .int .i64 0, .slice none 0 0, .slice none 0 0] 43))))
  have M0 := Lib.hid (heap_alloc_lt (o := .cells #[.pointer (some ⟨w.heap.size + 1, 1, none⟩)] 67) (heap_new_at (w.alloc (.cells #[.int .i64 0, .int .i64 0, .int .i64 0, .slice none 0 0, .slice none 0 0] 43)) (.cells #[.int .i64 pc, .int .i64 0, .int .i64 0, .slice none 0 0, .slice none 0 0] 43) (w.heap.size + 1) (by simp)))
  have B0 := Lib.hid ((((Below.refl w.heap.size w).alloc (Nat.le_refl _) (.cells #[.int .i64 0, .int .i64 0, .int .i64 0, .slice none 0 0, .slice none 0 0] 43)).alloc (by simp) (.cells #[.int .i64 pc, .int .i64 0, .int .i64 0, .slice none 0 0, .slice none 0 0] 43)).alloc (by simp; omega) (.cells #[.pointer (some ⟨w.heap.size + 1, 1, none⟩)] 67))
  have HR := fun W q c x hq hb ho h1 h2 => Lib.hid (read1_yes s q (w.heap.size + 1) 1 c 43 x W h hq hb ho h1 h2)
  have hopb := b1_lt (L s) 0
  have hts : (s.extract 1 s.size).size = s.size - 1 := by rw [ByteArray.size_extract]; omega
  have HT1 := Lib.hid (L_from s 1)
  obtain ⟨op, hop⟩ : ∃ op : Nat, b1 (L s) 0 = op := ⟨_, rfl⟩
  rw [hop] at hopb
  obtain ⟨t1, ht1⟩ : ∃ t1, s.extract 1 s.size = t1 := ⟨_, rfl⟩
  rw [ht1] at HT1 hts
  rw [hop] at HF
  have HOP := Lib.hid hop
  have HTS := Lib.hid hts
  rw [hop, ht1] at HR
  clear hf hop ht1 hts
  go_enter Tryd.func32, Tryd.ntmps32
  go_wp2_with fail
  refine (HR _ (w.heap.size + 1 + 1) _ _ (one_ptr_at _ _ _ (by simp)) M0.out rfl (by simp) (by omega)).out.mono ?_
  rintro e w1 ⟨rfl, hm1, hbut⟩
  have hz1' := hbut.size
  simp only [size_alloc] at hz1'
  have hlt0 : w.heap.size < w1.heap.size := by omega
  have hlt1 : w.heap.size + 1 < w1.heap.size := by omega
  have R1 := Lib.hid (hbut.keep (by omega) (by omega) R0.out)
  have B1 := Lib.hid (B0.out.trans (hbut.below (by simp; omega) (by omega) (by omega)))
  have M1 := Lib.hid (show w1.heap[w.heap.size + 1]? = some (.cells #[.int .i64 pc, .int .i64 op, .int .i64 0, .slice none 0 0, .slice none 0 0] 43 (0, 0)) from hm1)
  have m0 : w1.cell? ⟨w.heap.size + 1, 0, none⟩ = some (.int .i64 pc) := cells_of M1.out 0
  have m1 : w1.cell? ⟨w.heap.size + 1, 1, none⟩ = some (.int .i64 op) := cells_of M1.out 1
  have m2 : w1.cell? ⟨w.heap.size + 1, 2, none⟩ = some (.int .i64 0) := cells_of M1.out 2
  have m3 : w1.cell? ⟨w.heap.size + 1, 3, none⟩ = some (.slice none 0 0) := cells_of M1.out 3
  have m4 : w1.cell? ⟨w.heap.size + 1, 4, none⟩ = some (.slice none 0 0) := cells_of M1.out 4
  have r0 : w1.cell? ⟨w.heap.size, 0, none⟩ = some (.int .i64 0) := cells_of R1.out 0
  have r1 : w1.cell? ⟨w.heap.size, 1, none⟩ = some (.int .i64 0) := cells_of R1.out 1
  have r2 : w1.cell? ⟨w.heap.size, 2, none⟩ = some (.int .i64 0) := cells_of R1.out 2
  have r3 : w1.cell? ⟨w.heap.size, 3, none⟩ = some (.slice none 0 0) := cells_of R1.out 3
  have r4 : w1.cell? ⟨w.heap.size, 4, none⟩ = some (.slice none 0 0) := cells_of R1.out 4
  have rf : ∀ i, w1.frozen? ⟨w.heap.size, i, none⟩ = false := fun i => free_of R1.out i
  clear hbut hm1
  go_wp2_with fail
  refine (HF _).mono ?_
  rintro e w4 ⟨rfl, rfl⟩
  go_wp2
  refine bodyPost_ret (v := .tuple #[.agg #[.int .i64 pc, .int .i64 op, .int .i64 0, .slice none 0 0, .slice none 0 0], .string t1, .int .i64 0]) (by simp [results, Tryd.results32, go_sem, hlt0, hlt1, r0, r1, r2, r3, r4]) rfl (.inr ?_)
  rw [one_45 HONE.out]
  refine ⟨rfl, .slice none 0 0, .slice none 0 0, t1, by rw [HOP.out], HT1.out, IOwn.nil _ _, IOwn.nil _ _, ?_⟩
  repeat (first | with_reducible exact (B1.out) | with_reducible refine Below.setCell ?_ (by simp) _ | with_reducible refine Below.alloc ?_ (by simp; omega) _)
set_option maxRecDepth 1000000 in
set_option maxHeartbeats 12800000 in
theorem readInstr_0 (s : ByteArray) (pc : Nat) (w : World) (hpc : pc ≤ 1000000) (h : 1 ≤ s.size) (hm : s.size ≤ 1000000) (hf : formP (b1 (L s) 0) = 0) :
    Calls Tryd.prog 32 #[.string s, .int .i64 pc] w fun e w' => InE w s (oneP pc (L s)) e w' := by
  obtain ⟨i0, hi, hz0, hz1, hz2⟩ := info3
  have HF := fun W => Form_any (b1 (L s) 0) W
  rw [hf] at HF
  have HONE := Lib.hid hf
  have R0 := Lib.hid (heap_alloc_lt (o := .cells #[.pointer (some ⟨w.heap.size + 1, 1, none⟩)] 67) (heap_alloc_lt (o := .cells #[.int .i64 pc, .int .i64 0, .int .i64 0, .slice none 0 0, .slice none 0 0] 43) (heap_new w (.cells #[.int .i64 0, .int .i64 0, .int .i64 0, .slice none 0 0, .slice none 0 0] 43))))
  have M0 := Lib.hid (heap_alloc_lt (o := .cells #[.pointer (some ⟨w.heap.size + 1, 1, none⟩)] 67) (heap_new_at (w.alloc (.cells #[.int .i64 0, .int .i64 0, .int .i64 0, .slice none 0 0, .slice none 0 0] 43)) (.cells #[.int .i64 pc, .int .i64 0, .int .i64 0, .slice none 0 0, .slice none 0 0] 43) (w.heap.size + 1) (by simp)))
  have B0 := Lib.hid ((((Below.refl w.heap.size w).alloc (Nat.le_refl _) (.cells #[.int .i64 0, .int .i64 0, .int .i64 0, .slice none 0 0, .slice none 0 0] 43)).alloc (by simp) (.cells #[.int .i64 pc, .int .i64 0, .int .i64 0, .slice none 0 0, .slice none 0 0] 43)).alloc (by simp; omega) (.cells #[.pointer (some ⟨w.heap.size + 1, 1, none⟩)] 67))
  have HR := fun W q c x hq hb ho h1 h2 => Lib.hid (read1_yes s q (w.heap.size + 1) 1 c 43 x W h hq hb ho h1 h2)
  have hopb := b1_lt (L s) 0
  have hts : (s.extract 1 s.size).size = s.size - 1 := by rw [ByteArray.size_extract]; omega
  have HT1 := Lib.hid (L_from s 1)
  obtain ⟨op, hop⟩ : ∃ op : Nat, b1 (L s) 0 = op := ⟨_, rfl⟩
  rw [hop] at hopb
  obtain ⟨t1, ht1⟩ : ∃ t1, s.extract 1 s.size = t1 := ⟨_, rfl⟩
  rw [ht1] at HT1 hts
  rw [hop] at HF
  have HOP := Lib.hid hop
  have HTS := Lib.hid hts
  rw [hop, ht1] at HR
  clear hf hop ht1 hts
  go_enter Tryd.func32, Tryd.ntmps32
  go_wp2_with fail
  refine (HR _ (w.heap.size + 1 + 1) _ _ (one_ptr_at _ _ _ (by simp)) M0.out rfl (by simp) (by omega)).out.mono ?_
  rintro e w1 ⟨rfl, hm1, hbut⟩
  have hz1' := hbut.size
  simp only [size_alloc] at hz1'
  have hlt0 : w.heap.size < w1.heap.size := by omega
  have hlt1 : w.heap.size + 1 < w1.heap.size := by omega
  have R1 := Lib.hid (hbut.keep (by omega) (by omega) R0.out)
  have B1 := Lib.hid (B0.out.trans (hbut.below (by simp; omega) (by omega) (by omega)))
  have M1 := Lib.hid (show w1.heap[w.heap.size + 1]? = some (.cells #[.int .i64 pc, .int .i64 op, .int .i64 0, .slice none 0 0, .slice none 0 0] 43 (0, 0)) from hm1)
  have m0 : w1.cell? ⟨w.heap.size + 1, 0, none⟩ = some (.int .i64 pc) := cells_of M1.out 0
  have m1 : w1.cell? ⟨w.heap.size + 1, 1, none⟩ = some (.int .i64 op) := cells_of M1.out 1
  have m2 : w1.cell? ⟨w.heap.size + 1, 2, none⟩ = some (.int .i64 0) := cells_of M1.out 2
  have m3 : w1.cell? ⟨w.heap.size + 1, 3, none⟩ = some (.slice none 0 0) := cells_of M1.out 3
  have m4 : w1.cell? ⟨w.heap.size + 1, 4, none⟩ = some (.slice none 0 0) := cells_of M1.out 4
  have r0 : w1.cell? ⟨w.heap.size, 0, none⟩ = some (.int .i64 0) := cells_of R1.out 0
  have r1 : w1.cell? ⟨w.heap.size, 1, none⟩ = some (.int .i64 0) := cells_of R1.out 1
  have r2 : w1.cell? ⟨w.heap.size, 2, none⟩ = some (.int .i64 0) := cells_of R1.out 2
  have r3 : w1.cell? ⟨w.heap.size, 3, none⟩ = some (.slice none 0 0) := cells_of R1.out 3
  have r4 : w1.cell? ⟨w.heap.size, 4, none⟩ = some (.slice none 0 0) := cells_of R1.out 4
  have rf : ∀ i, w1.frozen? ⟨w.heap.size, i, none⟩ = false := fun i => free_of R1.out i
  clear hbut hm1
  go_wp2_with fail
  refine (HF _).mono ?_
  rintro e w4 ⟨rfl, rfl⟩
  go_wp2
  refine bodyPost_ret (v := .tuple #[zeroIn, .string ⟨#[]⟩, .int .i64 11]) (by simp [results, Tryd.results32, go_sem, zeroIn, hlt0, hlt1, r0, r1, r2, r3, r4]) rfl (.inl ⟨?_, ?_, ?_⟩)
  · rw [one_0 HONE.out]; decide
  · rw [one_0 HONE.out]
  · (repeat (first | with_reducible exact (B1.out) | with_reducible refine Below.setCell ?_ (by simp) _ | with_reducible refine Below.alloc ?_ (by simp; omega) _))
set_option maxRecDepth 1000000 in
set_option maxHeartbeats 12800000 in
theorem readInstr_98 (s : ByteArray) (pc : Nat) (w : World) (hpc : pc ≤ 1000000) (h : 1 ≤ s.size) (hm : s.size ≤ 1000000) (hf : formP (b1 (L s) 0) = 98) :
    Calls Tryd.prog 32 #[.string s, .int .i64 pc] w fun e w' => InE w s (oneP pc (L s)) e w' := by
  obtain ⟨i0, hi, hz0, hz1, hz2⟩ := info3
  have HF := fun W => Form_any (b1 (L s) 0) W
  rw [hf] at HF
  have HONE := Lib.hid hf
  have R0 := Lib.hid (heap_alloc_lt (o := .cells #[.pointer (some ⟨w.heap.size + 1, 1, none⟩)] 67) (heap_alloc_lt (o := .cells #[.int .i64 pc, .int .i64 0, .int .i64 0, .slice none 0 0, .slice none 0 0] 43) (heap_new w (.cells #[.int .i64 0, .int .i64 0, .int .i64 0, .slice none 0 0, .slice none 0 0] 43))))
  have M0 := Lib.hid (heap_alloc_lt (o := .cells #[.pointer (some ⟨w.heap.size + 1, 1, none⟩)] 67) (heap_new_at (w.alloc (.cells #[.int .i64 0, .int .i64 0, .int .i64 0, .slice none 0 0, .slice none 0 0] 43)) (.cells #[.int .i64 pc, .int .i64 0, .int .i64 0, .slice none 0 0, .slice none 0 0] 43) (w.heap.size + 1) (by simp)))
  have B0 := Lib.hid ((((Below.refl w.heap.size w).alloc (Nat.le_refl _) (.cells #[.int .i64 0, .int .i64 0, .int .i64 0, .slice none 0 0, .slice none 0 0] 43)).alloc (by simp) (.cells #[.int .i64 pc, .int .i64 0, .int .i64 0, .slice none 0 0, .slice none 0 0] 43)).alloc (by simp; omega) (.cells #[.pointer (some ⟨w.heap.size + 1, 1, none⟩)] 67))
  have HR := fun W q c x hq hb ho h1 h2 => Lib.hid (read1_yes s q (w.heap.size + 1) 1 c 43 x W h hq hb ho h1 h2)
  have hopb := b1_lt (L s) 0
  have hts : (s.extract 1 s.size).size = s.size - 1 := by rw [ByteArray.size_extract]; omega
  have HT1 := Lib.hid (L_from s 1)
  obtain ⟨op, hop⟩ : ∃ op : Nat, b1 (L s) 0 = op := ⟨_, rfl⟩
  rw [hop] at hopb
  obtain ⟨t1, ht1⟩ : ∃ t1, s.extract 1 s.size = t1 := ⟨_, rfl⟩
  rw [ht1] at HT1 hts
  rw [hop] at HF
  have HOP := Lib.hid hop
  have HTS := Lib.hid hts
  rw [hop, ht1] at HR
  clear hf hop ht1 hts
  go_enter Tryd.func32, Tryd.ntmps32
  go_wp2_with fail
  refine (HR _ (w.heap.size + 1 + 1) _ _ (one_ptr_at _ _ _ (by simp)) M0.out rfl (by simp) (by omega)).out.mono ?_
  rintro e w1 ⟨rfl, hm1, hbut⟩
  have hz1' := hbut.size
  simp only [size_alloc] at hz1'
  have hlt0 : w.heap.size < w1.heap.size := by omega
  have hlt1 : w.heap.size + 1 < w1.heap.size := by omega
  have R1 := Lib.hid (hbut.keep (by omega) (by omega) R0.out)
  have B1 := Lib.hid (B0.out.trans (hbut.below (by simp; omega) (by omega) (by omega)))
  have M1 := Lib.hid (show w1.heap[w.heap.size + 1]? = some (.cells #[.int .i64 pc, .int .i64 op, .int .i64 0, .slice none 0 0, .slice none 0 0] 43 (0, 0)) from hm1)
  have m0 : w1.cell? ⟨w.heap.size + 1, 0, none⟩ = some (.int .i64 pc) := cells_of M1.out 0
  have m1 : w1.cell? ⟨w.heap.size + 1, 1, none⟩ = some (.int .i64 op) := cells_of M1.out 1
  have m2 : w1.cell? ⟨w.heap.size + 1, 2, none⟩ = some (.int .i64 0) := cells_of M1.out 2
  have m3 : w1.cell? ⟨w.heap.size + 1, 3, none⟩ = some (.slice none 0 0) := cells_of M1.out 3
  have m4 : w1.cell? ⟨w.heap.size + 1, 4, none⟩ = some (.slice none 0 0) := cells_of M1.out 4
  have r0 : w1.cell? ⟨w.heap.size, 0, none⟩ = some (.int .i64 0) := cells_of R1.out 0
  have r1 : w1.cell? ⟨w.heap.size, 1, none⟩ = some (.int .i64 0) := cells_of R1.out 1
  have r2 : w1.cell? ⟨w.heap.size, 2, none⟩ = some (.int .i64 0) := cells_of R1.out 2
  have r3 : w1.cell? ⟨w.heap.size, 3, none⟩ = some (.slice none 0 0) := cells_of R1.out 3
  have r4 : w1.cell? ⟨w.heap.size, 4, none⟩ = some (.slice none 0 0) := cells_of R1.out 4
  have rf : ∀ i, w1.frozen? ⟨w.heap.size, i, none⟩ = false := fun i => free_of R1.out i
  clear hbut hm1
  go_wp2_with fail
  refine (HF _).mono ?_
  rintro e w4 ⟨rfl, rfl⟩
  by_cases hl : s.size < 2
  · have HRD := fun W q => Lib.hid (read1_no t1 q W (by have := HTS.out; omega))
    have HE := Lib.hid (one_98n (pc := pc) HONE.out (by rw [← size_L]; exact hl))
    have hlt : s.size ≤ 1 := by omega
    clear hl
    go_wp2_with fail
    refine (HRD _ _).out.mono ?_
    rintro e w2 ⟨rfl, rfl⟩
    go_wp2
    refine bodyPost_ret (v := .tuple #[zeroIn, .string ⟨#[]⟩, .int .i64 5]) (by simp [results, Tryd.results32, go_sem, zeroIn, hlt0, hlt1, r0, r1, r2, r3, r4]) rfl (.inl ⟨?_, ?_, ?_⟩)
    · rw [HE.out]; decide
    · rw [HE.out]
    · (repeat (first | with_reducible exact (B1.out) | with_reducible refine Below.setCell ?_ (by simp) _ | with_reducible refine Below.alloc ?_ (by simp; omega) _))
  · have HRD := fun W q c x hq hb ho h1 h2 => Lib.hid (read1_yes t1 q (w.heap.size + 1) 2 c 43 x W (by have := HTS.out; omega) hq hb ho h1 h2)
    have HE := Lib.hid (one_98 (pc := pc) HONE.out (by rw [← size_L]; omega))
    have hlt : 2 ≤ s.size := by omega
    clear hl
    have M1a := Lib.hid (heap_alloc_lt (o := .cells #[.pointer (some ⟨w.heap.size + 1, 2, none⟩)] 67) M1.out)
    have R1a := Lib.hid (heap_alloc_lt (o := .cells #[.pointer (some ⟨w.heap.size + 1, 2, none⟩)] 67) R1.out)
    have B1a := Lib.hid (B1.out.alloc B1.out.size (.cells #[.pointer (some ⟨w.heap.size + 1, 2, none⟩)] 67))
    go_wp2_with fail
    refine (HRD _ w1.heap.size _ _ (one_ptr_at _ _ _ rfl) M1a.out rfl (by simp) (by omega)).out.mono ?_
    rintro e w2 ⟨rfl, hm2, hbut⟩
    have hz2' := hbut.size
    simp only [size_alloc] at hz2'
    have R2 := Lib.hid (hbut.keep (by omega) (by omega) R1a.out)
    have B2 := Lib.hid (B1a.out.trans (hbut.below (by simp; omega) (by omega) (by omega)))
    have hv : (b1 (L t1) 0 : Int) = (b1 (L s) 1 : Int) := by rw [HT1.out, b1_drop]
    rw [hv] at hm2
    clear hv
    have M2 := Lib.hid (show w2.heap[w.heap.size + 1]? = some (.cells #[.int .i64 pc, .int .i64 op, .int .i64 ((b1 (L s) 1 : Nat)), .slice none 0 0, .slice none 0 0] 43 (0, 0)) from hm2)
    clear hbut hm2
    clear m0 m1 m2 m3 m4 r0 r1 r2 r3 r4 rf
    have m0 : w2.cell? ⟨w.heap.size + 1, 0, none⟩ = some (.int .i64 pc) := cells_of M2.out 0
    have m1 : w2.cell? ⟨w.heap.size + 1, 1, none⟩ = some (.int .i64 op) := cells_of M2.out 1
    have m2 : w2.cell? ⟨w.heap.size + 1, 2, none⟩ = some (.int .i64 ((b1 (L s) 1 : Nat))) := cells_of M2.out 2
    have m3 : w2.cell? ⟨w.heap.size + 1, 3, none⟩ = some (.slice none 0 0) := cells_of M2.out 3
    have m4 : w2.cell? ⟨w.heap.size + 1, 4, none⟩ = some (.slice none 0 0) := cells_of M2.out 4
    have r0 : w2.cell? ⟨w.heap.size, 0, none⟩ = some (.int .i64 0) := cells_of R2.out 0
    have r1 : w2.cell? ⟨w.heap.size, 1, none⟩ = some (.int .i64 0) := cells_of R2.out 1
    have r2 : w2.cell? ⟨w.heap.size, 2, none⟩ = some (.int .i64 0) := cells_of R2.out 2
    have r3 : w2.cell? ⟨w.heap.size, 3, none⟩ = some (.slice none 0 0) := cells_of R2.out 3
    have r4 : w2.cell? ⟨w.heap.size, 4, none⟩ = some (.slice none 0 0) := cells_of R2.out 4
    have rf : ∀ i, w2.frozen? ⟨w.heap.size, i, none⟩ = false := fun i => free_of R2.out i
    have mf : ∀ i, w2.frozen? ⟨w.heap.size + 1, i, none⟩ = false := fun i => free_of M2.out i
    go_wp2
    refine bodyPost_ret (v := .tuple #[.agg #[.int .i64 pc, .int .i64 op, .int .i64 ((b1 (L s) 1 : Nat)), .slice none 0 0, .slice none 0 0], .string (t1.extract 1 t1.size), .int .i64 0]) (by simp [results, Tryd.results32, go_sem, hlt0, hlt1, r0, r1, r2, r3, r4]) rfl (.inr ?_)
    rw [HE.out]
    refine ⟨rfl, .slice none 0 0, .slice none 0 0, (t1.extract 1 t1.size), by rw [HOP.out], by rw [L_from, HT1.out, List.drop_drop], IOwn.nil _ _, IOwn.nil _ _, ?_⟩
    repeat (first | with_reducible exact (B2.out) | with_reducible refine Below.setCell ?_ (by simp) _ | with_reducible refine Below.alloc ?_ (by simp; omega) _)
set_option maxRecDepth 1000000 in
set_option maxHeartbeats 12800000 in
theorem readInstr_110 (s : ByteArray) (pc : Nat) (w : World) (hpc : pc ≤ 1000000) (h : 1 ≤ s.size) (hm : s.size ≤ 1000000) (hf : formP (b1 (L s) 0) = 110) :
    Calls Tryd.prog 32 #[.string s, .int .i64 pc] w fun e w' => InE w s (oneP pc (L s)) e w' := by
  obtain ⟨i0, hi, hz0, hz1, hz2⟩ := info3
  have HF := fun W => Form_any (b1 (L s) 0) W
  rw [hf] at HF
  have HONE := Lib.hid hf
  have R0 := Lib.hid (heap_alloc_lt (o := .cells #[.pointer (some ⟨w.heap.size + 1, 1, none⟩)] 67) (heap_alloc_lt (o := .cells #[.int .i64 pc, .int .i64 0, .int .i64 0, .slice none 0 0, .slice none 0 0] 43) (heap_new w (.cells #[.int .i64 0, .int .i64 0, .int .i64 0, .slice none 0 0, .slice none 0 0] 43))))
  have M0 := Lib.hid (heap_alloc_lt (o := .cells #[.pointer (some ⟨w.heap.size + 1, 1, none⟩)] 67) (heap_new_at (w.alloc (.cells #[.int .i64 0, .int .i64 0, .int .i64 0, .slice none 0 0, .slice none 0 0] 43)) (.cells #[.int .i64 pc, .int .i64 0, .int .i64 0, .slice none 0 0, .slice none 0 0] 43) (w.heap.size + 1) (by simp)))
  have B0 := Lib.hid ((((Below.refl w.heap.size w).alloc (Nat.le_refl _) (.cells #[.int .i64 0, .int .i64 0, .int .i64 0, .slice none 0 0, .slice none 0 0] 43)).alloc (by simp) (.cells #[.int .i64 pc, .int .i64 0, .int .i64 0, .slice none 0 0, .slice none 0 0] 43)).alloc (by simp; omega) (.cells #[.pointer (some ⟨w.heap.size + 1, 1, none⟩)] 67))
  have HR := fun W q c x hq hb ho h1 h2 => Lib.hid (read1_yes s q (w.heap.size + 1) 1 c 43 x W h hq hb ho h1 h2)
  have hopb := b1_lt (L s) 0
  have hts : (s.extract 1 s.size).size = s.size - 1 := by rw [ByteArray.size_extract]; omega
  have HT1 := Lib.hid (L_from s 1)
  obtain ⟨op, hop⟩ : ∃ op : Nat, b1 (L s) 0 = op := ⟨_, rfl⟩
  rw [hop] at hopb
  obtain ⟨t1, ht1⟩ : ∃ t1, s.extract 1 s.size = t1 := ⟨_, rfl⟩
  rw [ht1] at HT1 hts
  rw [hop] at HF
  have HOP := Lib.hid hop
  have HTS := Lib.hid hts
  rw [hop, ht1] at HR
  clear hf hop ht1 hts
  go_enter Tryd.func32, Tryd.ntmps32
  go_wp2_with fail
  refine (HR _ (w.heap.size + 1 + 1) _ _ (one_ptr_at _ _ _ (by simp)) M0.out rfl (by simp) (by omega)).out.mono ?_
  rintro e w1 ⟨rfl, hm1, hbut⟩
  have hz1' := hbut.size
  simp only [size_alloc] at hz1'
  have hlt0 : w.heap.size < w1.heap.size := by omega
  have hlt1 : w.heap.size + 1 < w1.heap.size := by omega
  have R1 := Lib.hid (hbut.keep (by omega) (by omega) R0.out)
  have B1 := Lib.hid (B0.out.trans (hbut.below (by simp; omega) (by omega) (by omega)))
  have M1 := Lib.hid (show w1.heap[w.heap.size + 1]? = some (.cells #[.int .i64 pc, .int .i64 op, .int .i64 0, .slice none 0 0, .slice none 0 0] 43 (0, 0)) from hm1)
  have m0 : w1.cell? ⟨w.heap.size + 1, 0, none⟩ = some (.int .i64 pc) := cells_of M1.out 0
  have m1 : w1.cell? ⟨w.heap.size + 1, 1, none⟩ = some (.int .i64 op) := cells_of M1.out 1
  have m2 : w1.cell? ⟨w.heap.size + 1, 2, none⟩ = some (.int .i64 0) := cells_of M1.out 2
  have m3 : w1.cell? ⟨w.heap.size + 1, 3, none⟩ = some (.slice none 0 0) := cells_of M1.out 3
  have m4 : w1.cell? ⟨w.heap.size + 1, 4, none⟩ = some (.slice none 0 0) := cells_of M1.out 4
  have r0 : w1.cell? ⟨w.heap.size, 0, none⟩ = some (.int .i64 0) := cells_of R1.out 0
  have r1 : w1.cell? ⟨w.heap.size, 1, none⟩ = some (.int .i64 0) := cells_of R1.out 1
  have r2 : w1.cell? ⟨w.heap.size, 2, none⟩ = some (.int .i64 0) := cells_of R1.out 2
  have r3 : w1.cell? ⟨w.heap.size, 3, none⟩ = some (.slice none 0 0) := cells_of R1.out 3
  have r4 : w1.cell? ⟨w.heap.size, 4, none⟩ = some (.slice none 0 0) := cells_of R1.out 4
  have rf : ∀ i, w1.frozen? ⟨w.heap.size, i, none⟩ = false := fun i => free_of R1.out i
  clear hbut hm1
  go_wp2_with fail
  refine (HF _).mono ?_
  rintro e w4 ⟨rfl, rfl⟩
  by_cases hl : s.size < 3
  · have HRD := fun W q => Lib.hid (read2_no t1 q W (by have := HTS.out; omega))
    have HE := Lib.hid (one_110n (pc := pc) HONE.out (by rw [← size_L]; exact hl))
    have hlt : s.size ≤ 2 := by omega
    clear hl
    go_wp2_with fail
    refine (HRD _ _).out.mono ?_
    rintro e w2 ⟨rfl, rfl⟩
    go_wp2
    refine bodyPost_ret (v := .tuple #[zeroIn, .string ⟨#[]⟩, .int .i64 5]) (by simp [results, Tryd.results32, go_sem, zeroIn, hlt0, hlt1, r0, r1, r2, r3, r4]) rfl (.inl ⟨?_, ?_, ?_⟩)
    · rw [HE.out]; decide
    · rw [HE.out]
    · (repeat (first | with_reducible exact (B1.out) | with_reducible refine Below.setCell ?_ (by simp) _ | with_reducible refine Below.alloc ?_ (by simp; omega) _))
  · have HRD := fun W q c x hq hb ho h1 h2 => Lib.hid (read2_yes t1 q (w.heap.size + 1) 2 c 43 x W (by have := HTS.out; omega) hq hb ho h1 h2)
    have HE := Lib.hid (one_110 (pc := pc) HONE.out (by rw [← size_L]; omega))
    have hlt : 3 ≤ s.size := by omega
    clear hl
    have M1a := Lib.hid (heap_alloc_lt (o := .cells #[.pointer (some ⟨w.heap.size + 1, 2, none⟩)] 67) M1.out)
    have R1a := Lib.hid (heap_alloc_lt (o := .cells #[.pointer (some ⟨w.heap.size + 1, 2, none⟩)] 67) R1.out)
    have B1a := Lib.hid (B1.out.alloc B1.out.size (.cells #[.pointer (some ⟨w.heap.size + 1, 2, none⟩)] 67))
    go_wp2_with fail
    refine (HRD _ w1.heap.size _ _ (one_ptr_at _ _ _ rfl) M1a.out rfl (by simp) (by omega)).out.mono ?_
    rintro e w2 ⟨rfl, hm2, hbut⟩
    have hz2' := hbut.size
    simp only [size_alloc] at hz2'
    have R2 := Lib.hid (hbut.keep (by omega) (by omega) R1a.out)
    have B2 := Lib.hid (B1a.out.trans (hbut.below (by simp; omega) (by omega) (by omega)))
    have hv : b2 (L t1) 0 = b2 (L s) 1 := by rw [HT1.out, b2_drop]
    rw [hv] at hm2
    clear hv
    have M2 := Lib.hid (show w2.heap[w.heap.size + 1]? = some (.cells #[.int .i64 pc, .int .i64 op, .int .i64 (b2 (L s) 1), .slice none 0 0, .slice none 0 0] 43 (0, 0)) from hm2)
    clear hbut hm2
    clear m0 m1 m2 m3 m4 r0 r1 r2 r3 r4 rf
    have m0 : w2.cell? ⟨w.heap.size + 1, 0, none⟩ = some (.int .i64 pc) := cells_of M2.out 0
    have m1 : w2.cell? ⟨w.heap.size + 1, 1, none⟩ = some (.int .i64 op) := cells_of M2.out 1
    have m2 : w2.cell? ⟨w.heap.size + 1, 2, none⟩ = some (.int .i64 (b2 (L s) 1)) := cells_of M2.out 2
    have m3 : w2.cell? ⟨w.heap.size + 1, 3, none⟩ = some (.slice none 0 0) := cells_of M2.out 3
    have m4 : w2.cell? ⟨w.heap.size + 1, 4, none⟩ = some (.slice none 0 0) := cells_of M2.out 4
    have r0 : w2.cell? ⟨w.heap.size, 0, none⟩ = some (.int .i64 0) := cells_of R2.out 0
    have r1 : w2.cell? ⟨w.heap.size, 1, none⟩ = some (.int .i64 0) := cells_of R2.out 1
    have r2 : w2.cell? ⟨w.heap.size, 2, none⟩ = some (.int .i64 0) := cells_of R2.out 2
    have r3 : w2.cell? ⟨w.heap.size, 3, none⟩ = some (.slice none 0 0) := cells_of R2.out 3
    have r4 : w2.cell? ⟨w.heap.size, 4, none⟩ = some (.slice none 0 0) := cells_of R2.out 4
    have rf : ∀ i, w2.frozen? ⟨w.heap.size, i, none⟩ = false := fun i => free_of R2.out i
    have mf : ∀ i, w2.frozen? ⟨w.heap.size + 1, i, none⟩ = false := fun i => free_of M2.out i
    go_wp2
    refine bodyPost_ret (v := .tuple #[.agg #[.int .i64 pc, .int .i64 op, .int .i64 (b2 (L s) 1), .slice none 0 0, .slice none 0 0], .string (t1.extract 2 t1.size), .int .i64 0]) (by simp [results, Tryd.results32, go_sem, hlt0, hlt1, r0, r1, r2, r3, r4]) rfl (.inr ?_)
    rw [HE.out]
    refine ⟨rfl, .slice none 0 0, .slice none 0 0, (t1.extract 2 t1.size), by rw [HOP.out], by rw [L_from, HT1.out, List.drop_drop], IOwn.nil _ _, IOwn.nil _ _, ?_⟩
    repeat (first | with_reducible exact (B2.out) | with_reducible refine Below.setCell ?_ (by simp) _ | with_reducible refine Below.alloc ?_ (by simp; omega) _)
end Go.Proofs.YtjdaaecbnhcoaaaDoor
