/-
  CUT by wip/tools/rawprune.py: what is needed of an earlier stage's text.
-/
import Derived.Test.YtbeelcklbdnjnaaK5
set_option linter.unusedVariables false
set_option linter.unusedSimpArgs false
namespace Go.Proofs.Ytbeelcklbdnjnaa
open Go.RowKit

theorem jump_any (s : ByteArray) (w : World) (h : 2 ≤ s.size) :
    Calls Try.prog 35 #[.string s] w fun e w' => e = .returned (.int .i64 (s16 (b2 (L s) 0))) ∧ ∃ n, w' = w.drewN n := by
  have HT := fun W => Lib.hid (two_any s W h)
  have hb := b2_bd (L s) 0
  obtain ⟨z, hz⟩ : ∃ z, b2 (L s) 0 = z := ⟨_, rfl⟩
  rw [hz] at HT hb ⊢
  clear hz
  by_cases hlt : 32768 ≤ z
  · have e1 : s16 z = z - 65536 := by unfold s16; rw [if_pos hlt]
    rw [e1]
    clear e1
    go_enter Try.func35, Try.ntmps35
    go_wp2_with fail
    refine (HT _).out.mono ?_
    rintro e w1 ⟨rfl, n, rfl⟩
    go_wp2
    go_ret
    exact ⟨rfl, n, rfl⟩
  · have e1 : s16 z = z := by unfold s16; rw [if_neg hlt]
    rw [e1]
    clear e1
    go_enter Try.func35, Try.ntmps35
    go_wp2_with fail
    refine (HT _).out.mono ?_
    rintro e w1 ⟨rfl, n, rfl⟩
    go_wp2
    go_ret
    exact ⟨rfl, n, rfl⟩
/-- What the document's own answer is of an instruction. -/
def OneE (w : World) (o : Out) (e : Ending) (w' : World) : Prop :=
  (o.e ≠ 0 ∧ (∃ a b c a1 n1 c1 a2 n2 c2, e = .returned (.tuple #[.agg #[.int .i64 a, .int .i64 b, .int .i64 c, .slice a1 n1 c1, .slice a2 n2 c2], .int .i64 0, .int .i64 o.e])) ∧ Below w.heap.size w w') ∨
  (o.e = 0 ∧ ∃ kv tv, e = .returned (.tuple #[.agg #[.int .i64 o.x.pc, .int .i64 o.x.op, .int .i64 o.x.n, kv, tv], .int .i64 o.n, .int .i64 0]) ∧ IOwn w' w.heap.size kv o.x.keys ∧ IOwn w' w.heap.size tv o.x.to ∧ Below w.heap.size w w')
theorem b1_here (s : ByteArray) (pc : Nat) (h : pc < s.size) : b1 ((L s).drop pc) 0 = (s[pc]'h).toNat := by
  rw [b1_drop, get_b1 s pc h]
  rfl
theorem below_dn {B : Nat} {a w : World} (h : Below B a w) (n : Nat) : Below B a (w.drewN n) := ⟨h.os, h.tape, h.output, h.size, h.block⟩
set_option maxRecDepth 1000000 in
set_option maxHeartbeats 6400000 in
theorem refOne_45 (s : ByteArray) (pc : Nat) (w : World) (hpc : pc < s.size) (hm : s.size ≤ 1000000) (hf : formP (b1 ((L s).drop pc) 0) = 45) :
    Calls Try.prog 24 #[.string s, .int .i64 pc] w fun e w' => OneE w (oneP pc ((L s).drop pc)) e w' := by
  have HF := fun W => refForm_any (b1 ((L s).drop pc) 0) W
  rw [hf] at HF
  have HONE := Lib.hid hf
  have hb := b1_here s pc hpc
  have hlt : (s[pc]'hpc).toNat < 256 := (s[pc]'hpc).toNat_lt
  obtain ⟨op, hop⟩ : ∃ op : Nat, (s[pc]'hpc).toNat = op := ⟨_, rfl⟩
  rw [hop] at hb hlt
  rw [hb] at HF
  have HOP := Lib.hid hop
  have HB := Lib.hid hb
  have hp1 : ((pc : Int) + 1).toNat = pc + 1 := by omega
  obtain ⟨t, ht⟩ : ∃ t, s.extract (pc + 1) s.size = t := ⟨_, rfl⟩
  have htl : L t = ((L s).drop pc).drop 1 := by rw [← ht, L_from, List.drop_drop]
  have hts : t.size = s.size - (pc + 1) := by rw [← ht, ByteArray.size_extract]; omega
  have HT := Lib.hid ht
  have HTL := Lib.hid htl
  have HTS := Lib.hid hts
  have hrl : ((L s).drop pc).length = s.size - pc := by rw [List.length_drop, ← size_L]
  have HRL := Lib.hid hrl
  have B0 := Lib.hid (((Below.refl w.heap.size w).alloc (Nat.le_refl _) (.cells #[.int .i64 0, .int .i64 0, .int .i64 0, .slice none 0 0, .slice none 0 0] 44)).alloc (by simp) (.cells #[.int .i64 pc, .int .i64 op, .int .i64 0, .slice none 0 0, .slice none 0 0] 44))
  clear hf hb htl hts hrl
  go_enter Try.func24, Try.ntmps24
  go_wp2_with fail
  refine (HF _).mono ?_
  rintro e w4 ⟨rfl, rfl⟩
  go_wp2
  refine bodyPost_ret (v := .tuple #[.agg #[.int .i64 pc, .int .i64 op, .int .i64 0, .slice none 0 0, .slice none 0 0], .int .i64 1, .int .i64 0]) (by simp [results, Try.results24, go_sem]) rfl ?_
  rw [one_45 HONE.out]
  refine .inr ⟨rfl, .slice none 0 0, .slice none 0 0, by rw [HB.out]; rfl, IOwn.nil _ _, ?_, ?_⟩
  · exact IOwn.nil _ _
  · repeat (first | with_reducible exact (Below.refl _ _) | with_reducible exact (B0.out) | with_reducible refine below_dn ?_ _ | with_reducible refine Below.setCell ?_ (by first | (simp; done) | (simp; omega)) _ | with_reducible refine Below.alloc ?_ (by first | exact Nat.le_refl _ | (simp; done) | (simp; omega)) _)
set_option maxRecDepth 1000000 in
set_option maxHeartbeats 6400000 in
theorem refOne_0 (s : ByteArray) (pc : Nat) (w : World) (hpc : pc < s.size) (hm : s.size ≤ 1000000) (hf : formP (b1 ((L s).drop pc) 0) = 0) :
    Calls Try.prog 24 #[.string s, .int .i64 pc] w fun e w' => OneE w (oneP pc ((L s).drop pc)) e w' := by
  have HF := fun W => refForm_any (b1 ((L s).drop pc) 0) W
  rw [hf] at HF
  have HONE := Lib.hid hf
  have hb := b1_here s pc hpc
  have hlt : (s[pc]'hpc).toNat < 256 := (s[pc]'hpc).toNat_lt
  obtain ⟨op, hop⟩ : ∃ op : Nat, (s[pc]'hpc).toNat = op := ⟨_, rfl⟩
  rw [hop] at hb hlt
  rw [hb] at HF
  have HOP := Lib.hid hop
  have HB := Lib.hid hb
  have hp1 : ((pc : Int) + 1).toNat = pc + 1 := by omega
  obtain ⟨t, ht⟩ : ∃ t, s.extract (pc + 1) s.size = t := ⟨_, rfl⟩
  have htl : L t = ((L s).drop pc).drop 1 := by rw [← ht, L_from, List.drop_drop]
  have hts : t.size = s.size - (pc + 1) := by rw [← ht, ByteArray.size_extract]; omega
  have HT := Lib.hid ht
  have HTL := Lib.hid htl
  have HTS := Lib.hid hts
  have hrl : ((L s).drop pc).length = s.size - pc := by rw [List.length_drop, ← size_L]
  have HRL := Lib.hid hrl
  have B0 := Lib.hid (((Below.refl w.heap.size w).alloc (Nat.le_refl _) (.cells #[.int .i64 0, .int .i64 0, .int .i64 0, .slice none 0 0, .slice none 0 0] 44)).alloc (by simp) (.cells #[.int .i64 pc, .int .i64 op, .int .i64 0, .slice none 0 0, .slice none 0 0] 44))
  clear hf hb htl hts hrl
  go_enter Try.func24, Try.ntmps24
  go_wp2_with fail
  refine (HF _).mono ?_
  rintro e w4 ⟨rfl, rfl⟩
  go_wp2
  refine bodyPost_ret (v := .tuple #[.agg #[.int .i64 pc, .int .i64 op, .int .i64 0, .slice none 0 0, .slice none 0 0], .int .i64 0, .int .i64 11]) (by simp [results, Try.results24, go_sem]) rfl ?_
  rw [one_0 HONE.out]
  refine .inl ⟨by decide, ⟨_, _, _, _, _, _, _, _, _, rfl⟩, ?_⟩
  repeat (first | with_reducible exact (Below.refl _ _) | with_reducible exact (B0.out) | with_reducible refine below_dn ?_ _ | with_reducible refine Below.setCell ?_ (by first | (simp; done) | (simp; omega)) _ | with_reducible refine Below.alloc ?_ (by first | exact Nat.le_refl _ | (simp; done) | (simp; omega)) _)
set_option maxRecDepth 1000000 in
set_option maxHeartbeats 6400000 in
theorem refOne_98 (s : ByteArray) (pc : Nat) (w : World) (hpc : pc < s.size) (hm : s.size ≤ 1000000) (hf : formP (b1 ((L s).drop pc) 0) = 98) :
    Calls Try.prog 24 #[.string s, .int .i64 pc] w fun e w' => OneE w (oneP pc ((L s).drop pc)) e w' := by
  have HF := fun W => refForm_any (b1 ((L s).drop pc) 0) W
  rw [hf] at HF
  have HONE := Lib.hid hf
  have hb := b1_here s pc hpc
  have hlt : (s[pc]'hpc).toNat < 256 := (s[pc]'hpc).toNat_lt
  obtain ⟨op, hop⟩ : ∃ op : Nat, (s[pc]'hpc).toNat = op := ⟨_, rfl⟩
  rw [hop] at hb hlt
  rw [hb] at HF
  have HOP := Lib.hid hop
  have HB := Lib.hid hb
  have hp1 : ((pc : Int) + 1).toNat = pc + 1 := by omega
  obtain ⟨t, ht⟩ : ∃ t, s.extract (pc + 1) s.size = t := ⟨_, rfl⟩
  have htl : L t = ((L s).drop pc).drop 1 := by rw [← ht, L_from, List.drop_drop]
  have hts : t.size = s.size - (pc + 1) := by rw [← ht, ByteArray.size_extract]; omega
  have HT := Lib.hid ht
  have HTL := Lib.hid htl
  have HTS := Lib.hid hts
  have hrl : ((L s).drop pc).length = s.size - pc := by rw [List.length_drop, ← size_L]
  have HRL := Lib.hid hrl
  have B0 := Lib.hid (((Below.refl w.heap.size w).alloc (Nat.le_refl _) (.cells #[.int .i64 0, .int .i64 0, .int .i64 0, .slice none 0 0, .slice none 0 0] 44)).alloc (by simp) (.cells #[.int .i64 pc, .int .i64 op, .int .i64 0, .slice none 0 0, .slice none 0 0] 44))
  clear hf hb htl hts hrl
  go_enter Try.func24, Try.ntmps24
  go_wp2_with fail
  refine (HF _).mono ?_
  rintro e w4 ⟨rfl, rfl⟩
  by_cases hl : s.size - pc < 2
  · have HE := Lib.hid (one_98n (pc := pc) HONE.out (by rw [HRL.out]; exact hl))
    have htz : t.size < 1 := by have := HTS.out; omega
    clear hl
    go_wp2
    refine bodyPost_ret (v := .tuple #[.agg #[.int .i64 pc, .int .i64 op, .int .i64 0, .slice none 0 0, .slice none 0 0], .int .i64 0, .int .i64 5]) (by simp [results, Try.results24, go_sem]) rfl ?_
    rw [HE.out]
    refine .inl ⟨by decide, ⟨_, _, _, _, _, _, _, _, _, rfl⟩, ?_⟩
    repeat (first | with_reducible exact (Below.refl _ _) | with_reducible exact (B0.out) | with_reducible refine below_dn ?_ _ | with_reducible refine Below.setCell ?_ (by first | (simp; done) | (simp; omega)) _ | with_reducible refine Below.alloc ?_ (by first | exact Nat.le_refl _ | (simp; done) | (simp; omega)) _)
  · have HE := Lib.hid (one_98 (pc := pc) HONE.out (by rw [HRL.out]; omega))
    have htz : 1 ≤ t.size := by have := HTS.out; omega
    clear hl
    have hc := (get_b1 t 0 (by omega)).trans (by rw [HTL.out, b1_drop] : _ = b1 ((L s).drop pc) 1)
    have hcl : (t[0]'(by omega)).toNat < 256 := (t[0]'(by omega)).toNat_lt
    go_wp2
    refine bodyPost_ret (v := .tuple #[.agg #[.int .i64 pc, .int .i64 op, .int .i64 (b1 ((L s).drop pc) 1 : Nat), .slice none 0 0, .slice none 0 0], .int .i64 2, .int .i64 0]) (by simp [results, Try.results24, go_sem]) rfl ?_
    rw [HE.out]
    refine .inr ⟨rfl, .slice none 0 0, .slice none 0 0, by rw [HB.out]; rfl, IOwn.nil _ _, ?_, ?_⟩
    · exact IOwn.nil _ _
    · repeat (first | with_reducible exact (Below.refl _ _) | with_reducible exact (B0.out) | with_reducible refine below_dn ?_ _ | with_reducible refine Below.setCell ?_ (by first | (simp; done) | (simp; omega)) _ | with_reducible refine Below.alloc ?_ (by first | exact Nat.le_refl _ | (simp; done) | (simp; omega)) _)
set_option maxRecDepth 1000000 in
set_option maxHeartbeats 6400000 in
theorem refOne_110 (s : ByteArray) (pc : Nat) (w : World) (hpc : pc < s.size) (hm : s.size ≤ 1000000) (hf : formP (b1 ((L s).drop pc) 0) = 110) :
    Calls Try.prog 24 #[.string s, .int .i64 pc] w fun e w' => OneE w (oneP pc ((L s).drop pc)) e w' := by
  have HF := fun W => refForm_any (b1 ((L s).drop pc) 0) W
  rw [hf] at HF
  have HONE := Lib.hid hf
  have hb := b1_here s pc hpc
  have hlt : (s[pc]'hpc).toNat < 256 := (s[pc]'hpc).toNat_lt
  obtain ⟨op, hop⟩ : ∃ op : Nat, (s[pc]'hpc).toNat = op := ⟨_, rfl⟩
  rw [hop] at hb hlt
  rw [hb] at HF
  have HOP := Lib.hid hop
  have HB := Lib.hid hb
  have hp1 : ((pc : Int) + 1).toNat = pc + 1 := by omega
  obtain ⟨t, ht⟩ : ∃ t, s.extract (pc + 1) s.size = t := ⟨_, rfl⟩
  have htl : L t = ((L s).drop pc).drop 1 := by rw [← ht, L_from, List.drop_drop]
  have hts : t.size = s.size - (pc + 1) := by rw [← ht, ByteArray.size_extract]; omega
  have HT := Lib.hid ht
  have HTL := Lib.hid htl
  have HTS := Lib.hid hts
  have hrl : ((L s).drop pc).length = s.size - pc := by rw [List.length_drop, ← size_L]
  have HRL := Lib.hid hrl
  have B0 := Lib.hid (((Below.refl w.heap.size w).alloc (Nat.le_refl _) (.cells #[.int .i64 0, .int .i64 0, .int .i64 0, .slice none 0 0, .slice none 0 0] 44)).alloc (by simp) (.cells #[.int .i64 pc, .int .i64 op, .int .i64 0, .slice none 0 0, .slice none 0 0] 44))
  clear hf hb htl hts hrl
  go_enter Try.func24, Try.ntmps24
  go_wp2_with fail
  refine (HF _).mono ?_
  rintro e w4 ⟨rfl, rfl⟩
  by_cases hl : s.size - pc < 3
  · have HE := Lib.hid (one_110n (pc := pc) HONE.out (by rw [HRL.out]; exact hl))
    have htz : t.size < 2 := by have := HTS.out; omega
    clear hl
    go_wp2
    refine bodyPost_ret (v := .tuple #[.agg #[.int .i64 pc, .int .i64 op, .int .i64 0, .slice none 0 0, .slice none 0 0], .int .i64 0, .int .i64 5]) (by simp [results, Try.results24, go_sem]) rfl ?_
    rw [HE.out]
    refine .inl ⟨by decide, ⟨_, _, _, _, _, _, _, _, _, rfl⟩, ?_⟩
    repeat (first | with_reducible exact (Below.refl _ _) | with_reducible exact (B0.out) | with_reducible refine below_dn ?_ _ | with_reducible refine Below.setCell ?_ (by first | (simp; done) | (simp; omega)) _ | with_reducible refine Below.alloc ?_ (by first | exact Nat.le_refl _ | (simp; done) | (simp; omega)) _)
  · have HE := Lib.hid (one_110 (pc := pc) HONE.out (by rw [HRL.out]; omega))
    have htz : 2 ≤ t.size := by have := HTS.out; omega
    clear hl
    have HTW := fun W => Lib.hid (two_any t W (by omega))
    have hv : b2 (L t) 0 = b2 ((L s).drop pc) 1 := by rw [HTL.out, b2_drop]
    rw [hv] at HTW
    clear hv
    go_wp2_with fail
    refine (HTW _).out.mono ?_
    rintro e w5 ⟨rfl, nd, rfl⟩
    go_wp2
    refine bodyPost_ret (v := .tuple #[.agg #[.int .i64 pc, .int .i64 op, .int .i64 (b2 ((L s).drop pc) 1), .slice none 0 0, .slice none 0 0], .int .i64 3, .int .i64 0]) (by simp [results, Try.results24, go_sem]) rfl ?_
    rw [HE.out]
    refine .inr ⟨rfl, .slice none 0 0, .slice none 0 0, by rw [HB.out]; rfl, IOwn.nil _ _, ?_, ?_⟩
    · exact IOwn.nil _ _
    · repeat (first | with_reducible exact (Below.refl _ _) | with_reducible exact (B0.out) | with_reducible refine below_dn ?_ _ | with_reducible refine Below.setCell ?_ (by first | (simp; done) | (simp; omega)) _ | with_reducible refine Below.alloc ?_ (by first | exact Nat.le_refl _ | (simp; done) | (simp; omega)) _)
set_option maxRecDepth 1000000 in
set_option maxHeartbeats 6400000 in
theorem refOne_106 (s : ByteArray) (pc : Nat) (w : World) (hpc : pc < s.size) (hm : s.size ≤ 1000000) (hf : formP (b1 ((L s).drop pc) 0) = 106) :
    Calls Try.prog 24 #[.string s, .int .i64 pc] w fun e w' => OneE w (oneP pc ((L s).drop pc)) e w' := by
  have HF := fun W => refForm_any (b1 ((L s).drop pc) 0) W
  rw [hf] at HF
  have HONE := Lib.hid hf
  have hb := b1_here s pc hpc
  have hlt : (s[pc]'hpc).toNat < 256 := (s[pc]'hpc).toNat_lt
  obtain ⟨op, hop⟩ : ∃ op : Nat, (s[pc]'hpc).toNat = op := ⟨_, rfl⟩
  rw [hop] at hb hlt
  rw [hb] at HF
  have HOP := Lib.hid hop
  have HB := Lib.hid hb
  have hp1 : ((pc : Int) + 1).toNat = pc + 1 := by omega
  obtain ⟨t, ht⟩ : ∃ t, s.extract (pc + 1) s.size = t := ⟨_, rfl⟩
  have htl : L t = ((L s).drop pc).drop 1 := by rw [← ht, L_from, List.drop_drop]
  have hts : t.size = s.size - (pc + 1) := by rw [← ht, ByteArray.size_extract]; omega
  have HT := Lib.hid ht
  have HTL := Lib.hid htl
  have HTS := Lib.hid hts
  have hrl : ((L s).drop pc).length = s.size - pc := by rw [List.length_drop, ← size_L]
  have HRL := Lib.hid hrl
  have B0 := Lib.hid (((Below.refl w.heap.size w).alloc (Nat.le_refl _) (.cells #[.int .i64 0, .int .i64 0, .int .i64 0, .slice none 0 0, .slice none 0 0] 44)).alloc (by simp) (.cells #[.int .i64 pc, .int .i64 op, .int .i64 0, .slice none 0 0, .slice none 0 0] 44))
  clear hf hb htl hts hrl
  go_enter Try.func24, Try.ntmps24
  go_wp2_with fail
  refine (HF _).mono ?_
  rintro e w4 ⟨rfl, rfl⟩
  by_cases hl : s.size - pc < 3
  · have HE := Lib.hid (one_106n (pc := pc) HONE.out (by rw [HRL.out]; exact hl))
    have htz : t.size < 2 := by have := HTS.out; omega
    clear hl
    go_wp2
    refine bodyPost_ret (v := .tuple #[.agg #[.int .i64 pc, .int .i64 op, .int .i64 0, .slice none 0 0, .slice none 0 0], .int .i64 0, .int .i64 5]) (by simp [results, Try.results24, go_sem]) rfl ?_
    rw [HE.out]
    refine .inl ⟨by decide, ⟨_, _, _, _, _, _, _, _, _, rfl⟩, ?_⟩
    repeat (first | with_reducible exact (Below.refl _ _) | with_reducible exact (B0.out) | with_reducible refine below_dn ?_ _ | with_reducible refine Below.setCell ?_ (by first | (simp; done) | (simp; omega)) _ | with_reducible refine Below.alloc ?_ (by first | exact Nat.le_refl _ | (simp; done) | (simp; omega)) _)
  · have HE := Lib.hid (one_106 (pc := pc) HONE.out (by rw [HRL.out]; omega))
    have htz : 2 ≤ t.size := by have := HTS.out; omega
    clear hl
    have HTW := fun W => Lib.hid (jump_any t W (by omega))
    have hv : b2 (L t) 0 = b2 ((L s).drop pc) 1 := by rw [HTL.out, b2_drop]
    rw [hv] at HTW
    have hsb := s16_bd (b2_bd ((L s).drop pc) 1)
    clear hv
    go_wp2_with fail
    refine (HTW _).out.mono ?_
    rintro e w5 ⟨rfl, nd, rfl⟩
    go_wp2
    refine bodyPost_ret (v := .tuple #[.agg #[.int .i64 pc, .int .i64 op, .int .i64 0, .slice none 0 0, .slice (some ⟨w.heap.size + 1 + 1, 0, none⟩) 1 1], .int .i64 3, .int .i64 0]) (by simp [results, Try.results24, go_sem]) rfl ?_
    rw [HE.out]
    refine .inr ⟨rfl, .slice none 0 0, .slice (some ⟨w.heap.size + 1 + 1, 0, none⟩) 1 1, by rw [HB.out]; rfl, IOwn.nil _ _, ?_, ?_⟩
    · refine own_new (cs := [.int .i64 (pc + s16 (b2 ((L s).drop pc) 1))]) ?_ (by omega) rfl (by unfold maxLen; omega)
      exact heap_new_at _ _ _ (by simp)
    · repeat (first | with_reducible exact (Below.refl _ _) | with_reducible exact (B0.out) | with_reducible refine below_dn ?_ _ | with_reducible refine Below.setCell ?_ (by first | (simp; done) | (simp; omega)) _ | with_reducible refine Below.alloc ?_ (by first | exact Nat.le_refl _ | (simp; done) | (simp; omega)) _)
end Go.Proofs.Ytbeelcklbdnjnaa
