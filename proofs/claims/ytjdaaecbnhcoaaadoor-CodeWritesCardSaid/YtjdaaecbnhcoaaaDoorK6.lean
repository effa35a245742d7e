/-
  WALKS of an instruction that is read: jumps.
-/
import Derived.Test.YtjdaaecbnhcoaaaDoorK5
set_option linter.unusedVariables false
set_option linter.unusedSimpArgs false
namespace Go.Proofs.YtjdaaecbnhcoaaaDoor
open Go.RowKit

theorem read2_noB (s : ByteArray) (q b : Nat) (o : Obj) (w : World) (h : s.size < 2) (hb : w.heap[b]? = some o) :
    Calls Tryd.prog 41 #[.string s, .int .i64 2, .slice (some ⟨q, 0, none⟩) 1 1] w fun e w' => e = .returned (.tuple #[.string ⟨#[]⟩, .bool false]) ∧ w'.heap[b]? = some o ∧ But b b w w' :=
  (read2_no s q w h).mono fun e w' ⟨he, hw⟩ => by
    subst hw
    exact ⟨he, hb, But.refl _ _ _⟩
set_option maxRecDepth 1000000 in
set_option maxHeartbeats 12800000 in
theorem readInstr_106 (s : ByteArray) (pc : Nat) (w : World) (hpc : pc ≤ 1000000) (h : 1 ≤ s.size) (hm : s.size ≤ 1000000) (hf : formP (b1 (L s) 0) = 106) :
    Calls Tryd.prog 32 #[.string s, .int .i64 pc] w fun e w' => InE w s (oneP pc (L s)) e w' := by
  obtain ⟨i0, hi, hz0, hz1, hz2⟩ := info3
  have HTG := fun W j hj => Lib.hid (target_any pc j W (by omega) hj)
  have HF := fun W => Form_any (b1 (L s) 0) W
  rw [hf] at HF
  have HONE := Lib.hid hf
  have R0 := Lib.hid (heap_alloc_lt (o := .cells #[.pointer (some ⟨w.heap.size + 1, 1, none⟩)] 67) (heap_alloc_lt (o := .cells #[.int .i64 pc, .int .i64 0, .int .i64 0, .slice none 0 0, .slice none 0 0] 43) (heap_new w (.cells #[.int .i64 0, .int .i64 0, .int .i64 0, .slice none 0 0, .slice none 0 0] 43))))
  have M0 := Lib.hid (heap_alloc_lt (o := .cells #[.pointer (some ⟨w.heap.size + 1, 1, none⟩)] 67) (heap_new_at (w.alloc (.cells #[.int .i64 0, .int .i64 0, .int .i64 0, .slice none 0 0, .slice none 0 0] 43)) (.cells #[.int .i64 pc, .int .i64 0, .int .i64 0, .slice none 0 0, .slice none 0 0] 43) (w.heap.size + 1) (by simp)))
  have B0 := Lib.hid ((((Below.refl w.heap.size w).alloc (Nat.le_refl _) (.cells #[.int .i64 0, .int .i64 0, .int .i64 0, .slice none 0 0, .slice none 0 0] 43)).alloc (by simp) (.cells #[.int .i64 pc, .int .i64 0, .int .i64 0, .slice none 0 0, .slice none 0 0] 43)).alloc (by simp; omega) (.cells #[.pointer (some ⟨w.heap.size + 1, 1, none⟩)] 67))
  have HR := fun W q c x hq hb ho h1 h2 => Lib.hid (read1_yes s q (w.heap.size + 1) 1 c 43 x W h hq hb ho h1 h2)
  have hopb := b1_lt (L s) 0
  have hts : (s.extract 1 s.size).size = s.size - 1 := by rw [ByteArray.size_extract]; omega
  have HT1 := Lib.hid (L_from s 1)
  obtain ⟨op, hop⟩ : ∃ op : Nat, b1 (L s) 0 = op := ⟨_, rfl⟩
  rw [hop] at hopb
  obtain ⟨t1, ht1⟩ : ∃ t1, s.extract 1 s.size = t1 := ⟨_, rfl⟩
  rw [ht1] at HT1 hts
  rw [hop] at HF
  have HOP := Lib.hid hop
  have HTS := Lib.hid hts
  rw [hop, ht1] at HR
  clear hf hop ht1 hts
  go_enter Tryd.func32, Tryd.ntmps32
  go_wp2_with fail
  refine (HR _ (w.heap.size + 1 + 1) _ _ (one_ptr_at _ _ _ (by simp)) M0.out rfl (by simp) (by omega)).out.mono ?_
  rintro e w1 ⟨rfl, hm1, hbut⟩
  have hz1' := hbut.size
  simp only [size_alloc] at hz1'
  have hlt0 : w.heap.size < w1.heap.size := by omega
  have hlt1 : w.heap.size + 1 < w1.heap.size := by omega
  have R1 := Lib.hid (hbut.keep (by omega) (by omega) R0.out)
  have B1 := Lib.hid (B0.out.trans (hbut.below (by simp; omega) (by omega) (by omega)))
  have M1 := Lib.hid (show w1.heap[w.heap.size + 1]? = some (.cells #[.int .i64 pc, .int .i64 op, .int .i64 0, .slice none 0 0, .slice none 0 0] 43 (0, 0)) from hm1)
  have m0 : w1.cell? ⟨w.heap.size + 1, 0, none⟩ = some (.int .i64 pc) := cells_of M1.out 0
  have m1 : w1.cell? ⟨w.heap.size + 1, 1, none⟩ = some (.int .i64 op) := cells_of M1.out 1
  have m2 : w1.cell? ⟨w.heap.size + 1, 2, none⟩ = some (.int .i64 0) := cells_of M1.out 2
  have m3 : w1.cell? ⟨w.heap.size + 1, 3, none⟩ = some (.slice none 0 0) := cells_of M1.out 3
  have m4 : w1.cell? ⟨w.heap.size + 1, 4, none⟩ = some (.slice none 0 0) := cells_of M1.out 4
  have r0 : w1.cell? ⟨w.heap.size, 0, none⟩ = some (.int .i64 0) := cells_of R1.out 0
  have r1 : w1.cell? ⟨w.heap.size, 1, none⟩ = some (.int .i64 0) := cells_of R1.out 1
  have r2 : w1.cell? ⟨w.heap.size, 2, none⟩ = some (.int .i64 0) := cells_of R1.out 2
  have r3 : w1.cell? ⟨w.heap.size, 3, none⟩ = some (.slice none 0 0) := cells_of R1.out 3
  have r4 : w1.cell? ⟨w.heap.size, 4, none⟩ = some (.slice none 0 0) := cells_of R1.out 4
  have rf : ∀ i, w1.frozen? ⟨w.heap.size, i, none⟩ = false := fun i => free_of R1.out i
  clear hbut hm1
  go_wp2_with fail
  refine (HF _).mono ?_
  rintro e w4 ⟨rfl, rfl⟩
  by_cases hl : s.size < 3
  · have HRD := fun W q o hb => Lib.hid (read2_noB t1 q w1.heap.size o W (by have := HTS.out; omega) hb)
    have HE := Lib.hid (one_106n (pc := pc) HONE.out (by rw [← size_L]; exact hl))
    have hlt : s.size ≤ 2 := by omega
    clear hl
    have J1a := Lib.hid (heap_alloc_lt (o := .cells #[.pointer (some ⟨w1.heap.size, 0, none⟩)] 67) (heap_new w1 (.cells #[.int .i64 0] 3)))
    have M1a := Lib.hid (heap_alloc_lt (o := .cells #[.pointer (some ⟨w1.heap.size, 0, none⟩)] 67) (heap_alloc_lt (o := .cells #[.int .i64 0] 3) M1.out))
    have R1a := Lib.hid (heap_alloc_lt (o := .cells #[.pointer (some ⟨w1.heap.size, 0, none⟩)] 67) (heap_alloc_lt (o := .cells #[.int .i64 0] 3) R1.out))
    have B1a := Lib.hid ((B1.out.alloc B1.out.size (.cells #[.int .i64 0] 3)).alloc (le_alloc B1.out.size _) (.cells #[.pointer (some ⟨w1.heap.size, 0, none⟩)] 67))
    go_wp2_with fail
    refine (HRD _ (w1.heap.size + 1) _ J1a.out).out.mono ?_
    rintro e w2 ⟨rfl, hj2, hbut⟩
    have hz2' := hbut.size
    simp only [size_alloc] at hz2'
    have R2 := Lib.hid (hbut.keep (by omega) (by omega) R1a.out)
    have M2 := Lib.hid (hbut.keep (by omega) (by omega) M1a.out)
    have B2 := Lib.hid (B1a.out.trans (hbut.below (by simp; omega) (by omega) (by omega)))
    have j0 : w2.cell? ⟨w1.heap.size, 0, none⟩ = some (.int .i64 0) := cells_of hj2 0
    have hlt2 : w.heap.size < w2.heap.size := by omega
    have hlt3 : w.heap.size + 1 < w2.heap.size := by omega
    clear hbut hj2
    clear m0 m1 m2 m3 m4 r0 r1 r2 r3 r4 rf
    have m0 : w2.cell? ⟨w.heap.size + 1, 0, none⟩ = some (.int .i64 pc) := cells_of M2.out 0
    have m1 : w2.cell? ⟨w.heap.size + 1, 1, none⟩ = some (.int .i64 op) := cells_of M2.out 1
    have m2 : w2.cell? ⟨w.heap.size + 1, 2, none⟩ = some (.int .i64 0) := cells_of M2.out 2
    have m3 : w2.cell? ⟨w.heap.size + 1, 3, none⟩ = some (.slice none 0 0) := cells_of M2.out 3
    have m4 : w2.cell? ⟨w.heap.size + 1, 4, none⟩ = some (.slice none 0 0) := cells_of M2.out 4
    have r0 : w2.cell? ⟨w.heap.size, 0, none⟩ = some (.int .i64 0) := cells_of R2.out 0
    have r1 : w2.cell? ⟨w.heap.size, 1, none⟩ = some (.int .i64 0) := cells_of R2.out 1
    have r2 : w2.cell? ⟨w.heap.size, 2, none⟩ = some (.int .i64 0) := cells_of R2.out 2
    have r3 : w2.cell? ⟨w.heap.size, 3, none⟩ = some (.slice none 0 0) := cells_of R2.out 3
    have r4 : w2.cell? ⟨w.heap.size, 4, none⟩ = some (.slice none 0 0) := cells_of R2.out 4
    have rf : ∀ i, w2.frozen? ⟨w.heap.size, i, none⟩ = false := fun i => free_of R2.out i
    have mf : ∀ i, w2.frozen? ⟨w.heap.size + 1, i, none⟩ = false := fun i => free_of M2.out i
    go_wp2_with fail
    refine (HTG _ _ (by omega)).out.mono ?_
    rintro e w3 ⟨rfl, rfl⟩
    go_wp2
    refine bodyPost_ret (v := .tuple #[zeroIn, .string ⟨#[]⟩, .int .i64 5]) (by simp [results, Tryd.results32, go_sem, zeroIn, hlt2, hlt3, hlt0, hlt1, r0, r1, r2, r3, r4]) rfl (.inl ⟨?_, ?_, ?_⟩)
    · rw [HE.out]; decide
    · rw [HE.out]
    · repeat (first | with_reducible exact (B2.out) | with_reducible refine Below.setCell ?_ (by simp) _ | with_reducible refine Below.alloc ?_ (by simp; omega) _)
  · have HRD := fun W q c x hq hb ho h1 h2 => Lib.hid (read2_yes t1 q w1.heap.size 0 c 3 x W (by have := HTS.out; omega) hq hb ho h1 h2)
    have HE := Lib.hid (one_106 (pc := pc) HONE.out (by rw [← size_L]; omega))
    have hlt : 3 ≤ s.size := by omega
    clear hl
    have J1a := Lib.hid (heap_alloc_lt (o := .cells #[.pointer (some ⟨w1.heap.size, 0, none⟩)] 67) (heap_new w1 (.cells #[.int .i64 0] 3)))
    have M1a := Lib.hid (heap_alloc_lt (o := .cells #[.pointer (some ⟨w1.heap.size, 0, none⟩)] 67) (heap_alloc_lt (o := .cells #[.int .i64 0] 3) M1.out))
    have R1a := Lib.hid (heap_alloc_lt (o := .cells #[.pointer (some ⟨w1.heap.size, 0, none⟩)] 67) (heap_alloc_lt (o := .cells #[.int .i64 0] 3) R1.out))
    have B1a := Lib.hid ((B1.out.alloc B1.out.size (.cells #[.int .i64 0] 3)).alloc (le_alloc B1.out.size _) (.cells #[.pointer (some ⟨w1.heap.size, 0, none⟩)] 67))
    go_wp2_with fail
    refine (HRD _ (w1.heap.size + 1) _ _ (one_ptr_at _ _ _ (by simp)) J1a.out rfl (by simp) (by omega)).out.mono ?_
    rintro e w2 ⟨rfl, hj2, hbut⟩
    have hz2' := hbut.size
    simp only [size_alloc] at hz2'
    have R2 := Lib.hid (hbut.keep (by omega) (by omega) R1a.out)
    have M2 := Lib.hid (hbut.keep (by omega) (by omega) M1a.out)
    have B2 := Lib.hid (B1a.out.trans (hbut.below (by simp; omega) (by omega) (by omega)))
    have hv : b2 (L t1) 0 = b2 (L s) 1 := by rw [HT1.out, b2_drop]
    rw [hv] at hj2
    clear hv
    have J2 := Lib.hid (show w2.heap[w1.heap.size]? = some (.cells #[.int .i64 (b2 (L s) 1)] 3 (0, 0)) from hj2)
    have j0 : w2.cell? ⟨w1.heap.size, 0, none⟩ = some (.int .i64 (b2 (L s) 1)) := cells_of J2.out 0
    have hlt2 : w.heap.size < w2.heap.size := by omega
    have hlt3 : w.heap.size + 1 < w2.heap.size := by omega
    clear hbut hj2
    clear m0 m1 m2 m3 m4 r0 r1 r2 r3 r4 rf
    have m0 : w2.cell? ⟨w.heap.size + 1, 0, none⟩ = some (.int .i64 pc) := cells_of M2.out 0
    have m1 : w2.cell? ⟨w.heap.size + 1, 1, none⟩ = some (.int .i64 op) := cells_of M2.out 1
    have m2 : w2.cell? ⟨w.heap.size + 1, 2, none⟩ = some (.int .i64 0) := cells_of M2.out 2
    have m3 : w2.cell? ⟨w.heap.size + 1, 3, none⟩ = some (.slice none 0 0) := cells_of M2.out 3
    have m4 : w2.cell? ⟨w.heap.size + 1, 4, none⟩ = some (.slice none 0 0) := cells_of M2.out 4
    have r0 : w2.cell? ⟨w.heap.size, 0, none⟩ = some (.int .i64 0) := cells_of R2.out 0
    have r1 : w2.cell? ⟨w.heap.size, 1, none⟩ = some (.int .i64 0) := cells_of R2.out 1
    have r2 : w2.cell? ⟨w.heap.size, 2, none⟩ = some (.int .i64 0) := cells_of R2.out 2
    have r3 : w2.cell? ⟨w.heap.size, 3, none⟩ = some (.slice none 0 0) := cells_of R2.out 3
    have r4 : w2.cell? ⟨w.heap.size, 4, none⟩ = some (.slice none 0 0) := cells_of R2.out 4
    have rf : ∀ i, w2.frozen? ⟨w.heap.size, i, none⟩ = false := fun i => free_of R2.out i
    have mf : ∀ i, w2.frozen? ⟨w.heap.size + 1, i, none⟩ = false := fun i => free_of M2.out i
    go_wp2_with fail
    refine (HTG _ _ (b2_bd _ _)).out.mono ?_
    rintro e w3 ⟨rfl, rfl⟩
    go_wp2
    refine bodyPost_ret (v := .tuple #[.agg #[.int .i64 pc, .int .i64 op, .int .i64 0, .slice none 0 0, .slice (some ⟨w2.heap.size, 0, none⟩) 1 1], .string (t1.extract 2 t1.size), .int .i64 0]) (by simp [results, Tryd.results32, go_sem, hlt2, hlt3, hlt0, hlt1, r0, r1, r2, r3, r4]) rfl (.inr ?_)
    rw [HE.out]
    refine ⟨rfl, .slice none 0 0, .slice (some ⟨w2.heap.size, 0, none⟩) 1 1, t1.extract 2 t1.size, by rw [HOP.out], by rw [L_from, HT1.out, List.drop_drop], ?_, ?_, ?_⟩
    · exact IOwn.nil _ _
    · refine own_new (cs := [.int .i64 (pc + s16 (b2 (L s) 1))]) ?_ (by omega) rfl (by unfold maxLen; omega)
      exact heap_new_at _ _ _ (by simp)
    · repeat (first | with_reducible exact (B2.out) | with_reducible refine Below.setCell ?_ (by simp) _ | with_reducible refine Below.alloc ?_ (by simp; omega) _)
theorem keys_of {s t1 : List UInt8} (h : t1 = s.drop 1) (k : Nat) : keysS t1 k = keysP s k := by
  subst h
  unfold keysS keysP
  congr 1
  funext i
  rw [b2_drop]
  congr 1
  omega
theorem tos_of {s t1 : List UInt8} (h : t1 = s.drop 1) (pc k : Nat) : tosS pc t1 k = ((pc : Int) + s16 (b2 s 1)) :: tosP pc s k := by
  subst h
  unfold tosS tosP
  rw [b2_drop]
  congr 2
  funext i
  rw [b2_drop]
  congr 3
  omega
set_option maxRecDepth 1000000 in
set_option maxHeartbeats 12800000 in
theorem readInstr_115 (s : ByteArray) (pc : Nat) (w : World) (hpc : pc ≤ 1000000) (h : 1 ≤ s.size) (hm : s.size ≤ 1000000) (hf : formP (b1 (L s) 0) = 115) :
    Calls Tryd.prog 32 #[.string s, .int .i64 pc] w fun e w' => InE w s (oneP pc (L s)) e w' := by
  obtain ⟨i0, hi, hz0, hz1, hz2⟩ := info3
  have HF := fun W => Form_any (b1 (L s) 0) W
  rw [hf] at HF
  have HONE := Lib.hid hf
  have R0 := Lib.hid (heap_alloc_lt (o := .cells #[.pointer (some ⟨w.heap.size + 1, 1, none⟩)] 67) (heap_alloc_lt (o := .cells #[.int .i64 pc, .int .i64 0, .int .i64 0, .slice none 0 0, .slice none 0 0] 43) (heap_new w (.cells #[.int .i64 0, .int .i64 0, .int .i64 0, .slice none 0 0, .slice none 0 0] 43))))
  have M0 := Lib.hid (heap_alloc_lt (o := .cells #[.pointer (some ⟨w.heap.size + 1, 1, none⟩)] 67) (heap_new_at (w.alloc (.cells #[.int .i64 0, .int .i64 0, .int .i64 0, .slice none 0 0, .slice none 0 0] 43)) (.cells #[.int .i64 pc, .int .i64 0, .int .i64 0, .slice none 0 0, .slice none 0 0] 43) (w.heap.size + 1) (by simp)))
  have B0 := Lib.hid ((((Below.refl w.heap.size w).alloc (Nat.le_refl _) (.cells #[.int .i64 0, .int .i64 0, .int .i64 0, .slice none 0 0, .slice none 0 0] 43)).alloc (by simp) (.cells #[.int .i64 pc, .int .i64 0, .int .i64 0, .slice none 0 0, .slice none 0 0] 43)).alloc (by simp; omega) (.cells #[.pointer (some ⟨w.heap.size + 1, 1, none⟩)] 67))
  have HR := fun W q c x hq hb ho h1 h2 => Lib.hid (read1_yes s q (w.heap.size + 1) 1 c 43 x W h hq hb ho h1 h2)
  have hopb := b1_lt (L s) 0
  have hts : (s.extract 1 s.size).size = s.size - 1 := by rw [ByteArray.size_extract]; omega
  have HT1 := Lib.hid (L_from s 1)
  obtain ⟨op, hop⟩ : ∃ op : Nat, b1 (L s) 0 = op := ⟨_, rfl⟩
  rw [hop] at hopb
  obtain ⟨t1, ht1⟩ : ∃ t1, s.extract 1 s.size = t1 := ⟨_, rfl⟩
  rw [ht1] at HT1 hts
  rw [hop] at HF
  have HOP := Lib.hid hop
  have HTS := Lib.hid hts
  rw [hop, ht1] at HR
  clear hf hop ht1 hts
  go_enter Tryd.func32, Tryd.ntmps32
  go_wp2_with fail
  refine (HR _ (w.heap.size + 1 + 1) _ _ (one_ptr_at _ _ _ (by simp)) M0.out rfl (by simp) (by omega)).out.mono ?_
  rintro e w1 ⟨rfl, hm1, hbut⟩
  have hz1' := hbut.size
  simp only [size_alloc] at hz1'
  have hlt0 : w.heap.size < w1.heap.size := by omega
  have hlt1 : w.heap.size + 1 < w1.heap.size := by omega
  have R1 := Lib.hid (hbut.keep (by omega) (by omega) R0.out)
  have B1 := Lib.hid (B0.out.trans (hbut.below (by simp; omega) (by omega) (by omega)))
  have M1 := Lib.hid (show w1.heap[w.heap.size + 1]? = some (.cells #[.int .i64 pc, .int .i64 op, .int .i64 0, .slice none 0 0, .slice none 0 0] 43 (0, 0)) from hm1)
  have m0 : w1.cell? ⟨w.heap.size + 1, 0, none⟩ = some (.int .i64 pc) := cells_of M1.out 0
  have m1 : w1.cell? ⟨w.heap.size + 1, 1, none⟩ = some (.int .i64 op) := cells_of M1.out 1
  have m2 : w1.cell? ⟨w.heap.size + 1, 2, none⟩ = some (.int .i64 0) := cells_of M1.out 2
  have m3 : w1.cell? ⟨w.heap.size + 1, 3, none⟩ = some (.slice none 0 0) := cells_of M1.out 3
  have m4 : w1.cell? ⟨w.heap.size + 1, 4, none⟩ = some (.slice none 0 0) := cells_of M1.out 4
  have r0 : w1.cell? ⟨w.heap.size, 0, none⟩ = some (.int .i64 0) := cells_of R1.out 0
  have r1 : w1.cell? ⟨w.heap.size, 1, none⟩ = some (.int .i64 0) := cells_of R1.out 1
  have r2 : w1.cell? ⟨w.heap.size, 2, none⟩ = some (.int .i64 0) := cells_of R1.out 2
  have r3 : w1.cell? ⟨w.heap.size, 3, none⟩ = some (.slice none 0 0) := cells_of R1.out 3
  have r4 : w1.cell? ⟨w.heap.size, 4, none⟩ = some (.slice none 0 0) := cells_of R1.out 4
  have rf : ∀ i, w1.frozen? ⟨w.heap.size, i, none⟩ = false := fun i => free_of R1.out i
  clear hbut hm1
  go_wp2_with fail
  refine (HF _).mono ?_
  rintro e w4 ⟨rfl, rfl⟩
  by_cases hl : s.size < 5
  · have HRD := fun W => Lib.hid (readSwitch_short t1 pc W hpc (by have := HTS.out; omega))
    have HE := Lib.hid (one_115s (pc := pc) HONE.out (by rw [← size_L]; exact hl))
    have hlt : s.size ≤ 4 := by omega
    clear hl
    go_wp2_with fail
    refine (HRD _).out.mono ?_
    rintro e w2 ⟨a4, n4, c4, a5, n5, c5, rfl, hb2⟩
    have hz2' := hb2.size
    have R2 := Lib.hid ((hb2.block _ hlt0).trans R1.out)
    have M2 := Lib.hid ((hb2.block _ hlt1).trans M1.out)
    have B2 := Lib.hid (Below.link B1.out hb2)
    have hlt2 : w.heap.size < w2.heap.size := by omega
    have hlt3 : w.heap.size + 1 < w2.heap.size := by omega
    clear hb2
    clear m0 m1 m2 m3 m4 r0 r1 r2 r3 r4 rf
    have m0 : w2.cell? ⟨w.heap.size + 1, 0, none⟩ = some (.int .i64 pc) := cells_of M2.out 0
    have m1 : w2.cell? ⟨w.heap.size + 1, 1, none⟩ = some (.int .i64 op) := cells_of M2.out 1
    have m2 : w2.cell? ⟨w.heap.size + 1, 2, none⟩ = some (.int .i64 0) := cells_of M2.out 2
    have m3 : w2.cell? ⟨w.heap.size + 1, 3, none⟩ = some (.slice none 0 0) := cells_of M2.out 3
    have m4 : w2.cell? ⟨w.heap.size + 1, 4, none⟩ = some (.slice none 0 0) := cells_of M2.out 4
    have r0 : w2.cell? ⟨w.heap.size, 0, none⟩ = some (.int .i64 0) := cells_of R2.out 0
    have r1 : w2.cell? ⟨w.heap.size, 1, none⟩ = some (.int .i64 0) := cells_of R2.out 1
    have r2 : w2.cell? ⟨w.heap.size, 2, none⟩ = some (.int .i64 0) := cells_of R2.out 2
    have r3 : w2.cell? ⟨w.heap.size, 3, none⟩ = some (.slice none 0 0) := cells_of R2.out 3
    have r4 : w2.cell? ⟨w.heap.size, 4, none⟩ = some (.slice none 0 0) := cells_of R2.out 4
    have rf : ∀ i, w2.frozen? ⟨w.heap.size, i, none⟩ = false := fun i => free_of R2.out i
    have mf : ∀ i, w2.frozen? ⟨w.heap.size + 1, i, none⟩ = false := fun i => free_of M2.out i
    go_wp2
    refine bodyPost_ret (v := .tuple #[zeroIn, .string ⟨#[]⟩, .int .i64 5]) (by simp [results, Tryd.results32, go_sem, zeroIn, hlt2, hlt3, hlt0, hlt1, r0, r1, r2, r3, r4]) rfl (.inl ⟨?_, ?_, ?_⟩)
    · rw [HE.out]; decide
    · rw [HE.out]
    · repeat (first | with_reducible exact (B2.out) | with_reducible refine Below.setCell ?_ (by simp) _ | with_reducible refine Below.alloc ?_ (by simp; omega) _)
  · have hn1 : b2 (L t1) 2 = ((b2 (L s) 3).toNat : Int) := by
      have := b2_bd (L s) 3
      rw [HT1.out, b2_drop]
      show b2 (L s) 3 = _
      omega
    obtain ⟨n, hn⟩ : ∃ n : Nat, (b2 (L s) 3).toNat = n := ⟨_, rfl⟩
    rw [hn] at hn1
    have HN := Lib.hid hn
    have HRD := fun W => Lib.hid (readSwitch_long t1 pc n W hpc (by have := HTS.out; omega) (by have := HTS.out; omega) hn1)
    have hlt : 5 ≤ s.size := by omega
    clear hl hn hn1
    go_wp2_with fail
    refine (HRD _).out.mono ?_
    rintro e w2 (⟨kv, tv, t, rfl, hle, hL2, hk2, ht2, hb2⟩ | ⟨a4, n4, c4, a5, n5, c5, rfl, hsh, hb2⟩)
    · have hz2' := hb2.size
      have R2 := Lib.hid ((hb2.block _ hlt0).trans R1.out)
      have M2 := Lib.hid ((hb2.block _ hlt1).trans M1.out)
      have B2 := Lib.hid (Below.link B1.out hb2)
      have hlt2 : w.heap.size < w2.heap.size := by omega
      have hlt3 : w.heap.size + 1 < w2.heap.size := by omega
      clear hb2
      have HE := Lib.hid (one_115 (pc := pc) HONE.out (by rw [← size_L, HN.out]; have := HTS.out; omega))
      have HL2 := Lib.hid hL2
      have HK2 := Lib.hid hk2
      have HT2 := Lib.hid ht2
      obtain ⟨ak, ck, rfl⟩ := hk2.form
      obtain ⟨a_t, c_t, rfl⟩ := ht2.form
      clear hL2 hk2 ht2 hle
      clear m0 m1 m2 m3 m4 r0 r1 r2 r3 r4 rf
      have m0 : w2.cell? ⟨w.heap.size + 1, 0, none⟩ = some (.int .i64 pc) := cells_of M2.out 0
      have m1 : w2.cell? ⟨w.heap.size + 1, 1, none⟩ = some (.int .i64 op) := cells_of M2.out 1
      have m2 : w2.cell? ⟨w.heap.size + 1, 2, none⟩ = some (.int .i64 0) := cells_of M2.out 2
      have m3 : w2.cell? ⟨w.heap.size + 1, 3, none⟩ = some (.slice none 0 0) := cells_of M2.out 3
      have m4 : w2.cell? ⟨w.heap.size + 1, 4, none⟩ = some (.slice none 0 0) := cells_of M2.out 4
      have r0 : w2.cell? ⟨w.heap.size, 0, none⟩ = some (.int .i64 0) := cells_of R2.out 0
      have r1 : w2.cell? ⟨w.heap.size, 1, none⟩ = some (.int .i64 0) := cells_of R2.out 1
      have r2 : w2.cell? ⟨w.heap.size, 2, none⟩ = some (.int .i64 0) := cells_of R2.out 2
      have r3 : w2.cell? ⟨w.heap.size, 3, none⟩ = some (.slice none 0 0) := cells_of R2.out 3
      have r4 : w2.cell? ⟨w.heap.size, 4, none⟩ = some (.slice none 0 0) := cells_of R2.out 4
      have rf : ∀ i, w2.frozen? ⟨w.heap.size, i, none⟩ = false := fun i => free_of R2.out i
      have mf : ∀ i, w2.frozen? ⟨w.heap.size + 1, i, none⟩ = false := fun i => free_of M2.out i
      go_wp2
      refine bodyPost_ret (v := .tuple #[.agg #[.int .i64 pc, .int .i64 op, .int .i64 0, .slice ak (keysS (L t1) n).length ck, .slice a_t (tosS pc (L t1) n).length c_t], .string (t), .int .i64 0]) (by simp [results, Tryd.results32, go_sem, hlt2, hlt3, hlt0, hlt1, r0, r1, r2, r3, r4]) rfl (.inr ?_)
      rw [HE.out, HN.out]
      refine ⟨rfl, .slice ak (keysS (L t1) n).length ck, .slice a_t (tosS pc (L t1) n).length c_t, t, by rw [HOP.out], by rw [HL2.out, HT1.out, List.drop_drop]; congr 1; show _ = 5 + 4 * n; omega, ?_, ?_, ?_⟩
      · show IOwn _ _ _ (keysP (L s) n)
        rw [← keys_of HT1.out n]
        refine own_mono (base := w1.heap.size) ?_ (by omega)
        repeat (with_reducible refine ownsRow_setCell_below ?_ (by simp; omega) _)
        exact HK2.out
      · show IOwn _ _ _ (((pc : Int) + s16 (b2 (L s) 1)) :: tosP pc (L s) n)
        rw [← tos_of HT1.out pc n]
        refine own_mono (base := w1.heap.size) ?_ (by omega)
        repeat (with_reducible refine ownsRow_setCell_below ?_ (by simp; omega) _)
        exact HT2.out
      · repeat (first | with_reducible exact (B2.out) | with_reducible refine Below.setCell ?_ (by simp) _ | with_reducible refine Below.alloc ?_ (by simp; omega) _)
    · have hz2' := hb2.size
      have R2 := Lib.hid ((hb2.block _ hlt0).trans R1.out)
      have M2 := Lib.hid ((hb2.block _ hlt1).trans M1.out)
      have B2 := Lib.hid (Below.link B1.out hb2)
      have hlt2 : w.heap.size < w2.heap.size := by omega
      have hlt3 : w.heap.size + 1 < w2.heap.size := by omega
      clear hb2
      have HE := Lib.hid (one_115n (pc := pc) HONE.out (by rw [← size_L, HN.out]; have := HTS.out; omega))
      clear hsh
      clear m0 m1 m2 m3 m4 r0 r1 r2 r3 r4 rf
      have m0 : w2.cell? ⟨w.heap.size + 1, 0, none⟩ = some (.int .i64 pc) := cells_of M2.out 0
      have m1 : w2.cell? ⟨w.heap.size + 1, 1, none⟩ = some (.int .i64 op) := cells_of M2.out 1
      have m2 : w2.cell? ⟨w.heap.size + 1, 2, none⟩ = some (.int .i64 0) := cells_of M2.out 2
      have m3 : w2.cell? ⟨w.heap.size + 1, 3, none⟩ = some (.slice none 0 0) := cells_of M2.out 3
      have m4 : w2.cell? ⟨w.heap.size + 1, 4, none⟩ = some (.slice none 0 0) := cells_of M2.out 4
      have r0 : w2.cell? ⟨w.heap.size, 0, none⟩ = some (.int .i64 0) := cells_of R2.out 0
      have r1 : w2.cell? ⟨w.heap.size, 1, none⟩ = some (.int .i64 0) := cells_of R2.out 1
      have r2 : w2.cell? ⟨w.heap.size, 2, none⟩ = some (.int .i64 0) := cells_of R2.out 2
      have r3 : w2.cell? ⟨w.heap.size, 3, none⟩ = some (.slice none 0 0) := cells_of R2.out 3
      have r4 : w2.cell? ⟨w.heap.size, 4, none⟩ = some (.slice none 0 0) := cells_of R2.out 4
      have rf : ∀ i, w2.frozen? ⟨w.heap.size, i, none⟩ = false := fun i => free_of R2.out i
      have mf : ∀ i, w2.frozen? ⟨w.heap.size + 1, i, none⟩ = false := fun i => free_of M2.out i
      go_wp2
      refine bodyPost_ret (v := .tuple #[zeroIn, .string ⟨#[]⟩, .int .i64 5]) (by simp [results, Tryd.results32, go_sem, zeroIn, hlt2, hlt3, hlt0, hlt1, r0, r1, r2, r3, r4]) rfl (.inl ⟨?_, ?_, ?_⟩)
      · rw [HE.out]; decide
      · rw [HE.out]
      · repeat (first | with_reducible exact (B2.out) | with_reducible refine Below.setCell ?_ (by simp) _ | with_reducible refine Below.alloc ?_ (by simp; omega) _)
theorem readInstr_any (s : ByteArray) (pc : Nat) (w : World) (hpc : pc ≤ 1000000) (h : 1 ≤ s.size) (hm : s.size ≤ 1000000) :
    Calls Tryd.prog 32 #[.string s, .int .i64 pc] w fun e w' => InE w s (oneP pc (L s)) e w' := by
  rcases formP_in (b1 (L s) 0) with hf | hf | hf | hf | hf | hf
  · exact readInstr_0 s pc w hpc h hm hf
  · exact readInstr_115 s pc w hpc h hm hf
  · exact readInstr_106 s pc w hpc h hm hf
  · exact readInstr_98 s pc w hpc h hm hf
  · exact readInstr_110 s pc w hpc h hm hf
  · exact readInstr_45 s pc w hpc h hm hf
end Go.Proofs.YtjdaaecbnhcoaaaDoor
