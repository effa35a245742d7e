/-
  CUT by wip/tools/rawprune.py: what is needed of an earlier stage's text.
-/
import Derived.Test.YtbeelcklbdnjnaaK11
import Derived.Deep.QuietTactic
import Derived.Deep.RegionLaw
import Derived.Deep.LoopGhost
import Derived.Deep.DeepCutAuto
set_option linter.unusedVariables false
set_option linter.unusedSimpArgs false
namespace Go.Proofs.Ytbeelcklbdnjnaa
open Go.RowKit

theorem keysS_P (r t : List UInt8) (ht : t = r.drop 1) (k : Nat) : keysS t k = keysP r k := by
  subst ht
  unfold keysS keysP
  apply List.map_congr_left
  intro i _
  rw [b2_drop]
  congr 1
  omega
theorem tosS_P (pc : Nat) (r t : List UInt8) (ht : t = r.drop 1) (k : Nat) : tosS pc t k = ((pc : Int) + s16 (b2 r 1)) :: tosP pc r k := by
  subst ht
  unfold tosS tosP
  rw [b2_drop]
  congr 1
  apply List.map_congr_left
  intro i _
  rw [b2_drop]
  congr 3
  omega
/-- What stands at the head of the loop. -/
def SwAt (w : World) (pc op : Nat) (t : ByteArray) (a b : Nat) (kv tv : Value) (wx : World) : Prop :=
  wx.heap[w.heap.size]? = some (.cells #[.int .i64 0, .int .i64 0, .int .i64 0, .slice none 0 0, .slice none 0 0] 44 (0, 0)) ∧ wx.heap[w.heap.size + 1]? = some (.cells #[.int .i64 pc, .int .i64 op, .int .i64 0, kv, tv] 44 (0, 0)) ∧
  w.heap.size + 1 + 1 ≤ wx.heap.size ∧ wx.ownsRow (w.heap.size + 1 + 1) 3 1 kv a (icells (keysS (L t) a)) ∧ wx.ownsRow (w.heap.size + 1 + 1) 3 1 tv (b + 1) (icells (tosS pc (L t) b)) ∧ Sep kv tv ∧ Below w.heap.size w wx
theorem SwAt.key {w wr W1 w3 : World} {pc op : Nat} {t : ByteArray} {a b : Nat} {kv tv v3 : Value} {x : Int} (h : SwAt w pc op t a b kv tv wr) (hW : Below wr.heap.size wr W1)
    (own3 : w3.ownsRow (w.heap.size + 1 + 1) 3 1 v3 (a + 1) (icells (keysS (L t) a) ++ [.int .i64 x])) (hg3 : (W1.alloc (.cells #[.int .i64 x] 3)).grownBy w3 kv.ownBlock) (hm3 : Moved (W1.alloc (.cells #[.int .i64 x] 3)) kv v3)
    (hx : b2 (L t) (4 + 4 * a) = x) : SwAt w pc op t (a + 1) b v3 tv (w3.setCell ⟨w.heap.size + 1, 3, none⟩ v3) := by
  obtain ⟨h1, h2, h3, h4, h5, h6, h7⟩ := h
  have k1 := own_below h4 hW
  have k2 := own_below h5 hW
  have e1 := (hW.block _ (lt_of_block h1)).trans h1
  have e2 := (hW.block _ (lt_of_block h2)).trans h2
  have m1 := grown_keep (k1.alloc _) hg3 (by omega) (heap_alloc_lt (o := .cells #[.int .i64 x] 3) e1)
  have m2 := grown_keep (k1.alloc _) hg3 (by omega) (heap_alloc_lt (o := .cells #[.int .i64 x] 3) e2)
  have o2 := own_grown_other (k2.alloc (.cells #[.int .i64 x] 3)) h6 hg3
  have hs := hW.size
  have hz := hg3.size
  simp only [size_alloc] at hz
  refine ⟨(Below.heap_setCell _ _ _ _ (by simp)).trans m1, by simpa using heap_set_eq (i := 3) (u := v3) m2 (by simp), by simp; omega, ?_, ?_, h6.moved hm3 (k2.alloc (.cells #[.int .i64 x] 3)), ?_⟩
  · rw [keysS_succ, icells_append, hx]
    exact ownsRow_setCell_below own3 (by simp) v3
  · exact ownsRow_setCell_below o2 (by simp) v3
  · refine Below.setCell (((h7.trans (hW.mono h7.size)).alloc (Nat.le_trans h7.size hs) (.cells #[.int .i64 x] 3)).grown hg3 (by simp; have := h7.size; omega) (fun k hk => by have := own_block_ge k1 k hk; omega)) (by simp) v3
theorem SwAt.to_ {w wr W1 w3 : World} {pc op : Nat} {t : ByteArray} {a b : Nat} {kv tv v3 : Value} {x : Int} (h : SwAt w pc op t a b kv tv wr) (hW : Below wr.heap.size wr W1)
    (own3 : w3.ownsRow (w.heap.size + 1 + 1) 3 1 v3 (b + 1 + 1) (icells (tosS pc (L t) b) ++ [.int .i64 x])) (hg3 : (W1.alloc (.cells #[.int .i64 x] 3)).grownBy w3 tv.ownBlock) (hm3 : Moved (W1.alloc (.cells #[.int .i64 x] 3)) tv v3)
    (hx : (pc : Int) + s16 (b2 (L t) (6 + 4 * b)) = x) : SwAt w pc op t a (b + 1) kv v3 (w3.setCell ⟨w.heap.size + 1, 4, none⟩ v3) := by
  obtain ⟨h1, h2, h3, h4, h5, h6, h7⟩ := h
  have k1 := own_below h5 hW
  have k2 := own_below h4 hW
  have e1 := (hW.block _ (lt_of_block h1)).trans h1
  have e2 := (hW.block _ (lt_of_block h2)).trans h2
  have m1 := grown_keep (k1.alloc _) hg3 (by omega) (heap_alloc_lt (o := .cells #[.int .i64 x] 3) e1)
  have m2 := grown_keep (k1.alloc _) hg3 (by omega) (heap_alloc_lt (o := .cells #[.int .i64 x] 3) e2)
  have o2 := own_grown_other (k2.alloc (.cells #[.int .i64 x] 3)) h6.swap hg3
  have hs := hW.size
  have hz := hg3.size
  simp only [size_alloc] at hz
  refine ⟨(Below.heap_setCell _ _ _ _ (by simp)).trans m1, by simpa using heap_set_eq (i := 4) (u := v3) m2 (by simp), by simp; omega, ?_, ?_, (h6.swap.moved hm3 (k2.alloc (.cells #[.int .i64 x] 3))).swap, ?_⟩
  · exact ownsRow_setCell_below o2 (by simp) v3
  · rw [tosS_succ, icells_append, hx]
    exact ownsRow_setCell_below own3 (by simp) v3
  · refine Below.setCell (((h7.trans (hW.mono h7.size)).alloc (Nat.le_trans h7.size hs) (.cells #[.int .i64 x] 3)).grown hg3 (by simp; have := h7.size; omega) (fun k hk => by have := own_block_ge k1 k hk; omega)) (by simp) v3
theorem SwAt.after {w wr W1 w3 : World} {pc op : Nat} {t : ByteArray} {a b : Nat} {kv tv v : Value} {o : Obj} {n size : Nat} {xs : List Value} (h : SwAt w pc op t a b kv tv wr) (hW : Below wr.heap.size wr W1)
    (k1 : W1.ownsRow (w.heap.size + 1 + 1) 3 size v n xs) (hg3 : (W1.alloc o).grownBy w3 v.ownBlock) :
    w3.cell? ⟨w.heap.size + 1, 3, none⟩ = some kv ∧ w3.cell? ⟨w.heap.size + 1, 4, none⟩ = some tv ∧ ∀ i, w3.frozen? ⟨w.heap.size + 1, i, none⟩ = false := by
  obtain ⟨h1, h2, h3, h4, h5, h6, h7⟩ := h
  have e2 := (hW.block _ (lt_of_block h2)).trans h2
  have m2 := grown_keep (k1.alloc o) hg3 (by omega) (heap_alloc_lt (o := o) e2)
  exact ⟨cells_of m2 3, cells_of m2 4, free_of m2⟩
theorem own_set5 {w : World} {base b : Nat} {e : TypeId} {size n : Nat} {v : Value} {xs : List Value} (h : w.ownsRow base e size v n xs) (hb : b < base) (v0 v1 v2 v3 v4 : Value) :
    (((((w.setCell ⟨b, 0, none⟩ v0).setCell ⟨b, 1, none⟩ v1).setCell ⟨b, 2, none⟩ v2).setCell ⟨b, 3, none⟩ v3).setCell ⟨b, 4, none⟩ v4).ownsRow base e size v n xs :=
  ownsRow_setCell_below (ownsRow_setCell_below (ownsRow_setCell_below (ownsRow_setCell_below (ownsRow_setCell_below h hb _) hb _) hb _) hb _) hb _
theorem step_append_own2 {P : Program} {ops : Array Oper} {w : World} {o : Oper} {a : Act} {K : Act → World → Prop} {Q : Exit → Act → World → Prop} {E : Prop} (hgd : o.guard = none) (s x : Operand) (t : TypeId)
    (ho : o.op = .call { callee := .builtin .append, args := #[s, x], argTypes := #[t, t] })
    (base : Nat) (e : TypeId) (i : TypeInfo) (z : Value) (size bytes : Nat) (ht : P.underlying t = some (.slice e)) (hi : P.info? e = some i) (hz : i.zero = some z)
    (hsize : i.size = size) (hby : i.bytes = bytes) (hzs : z.cells.size = size) (hsz : 0 < size)
    (v : Value) (n : Nat) (xs : List Value) (hs : a.eval s = v) (hown : w.ownsRow base e size v n xs)
    (ad : Addr) (m c : Nat) (news : List Value) (hx : a.eval x = .slice (some ad) m c) (hl : news.length = m * size) (hnews : ∀ j u, news[j]? = some u → w.cell? (ad.add j) = some u) (h1 : ∀ u ∈ news, u.oneCell' = true)
    (h63 : n + m ≤ maxLen) (hbytes : (n + m) * bytes ≤ 140737488355328) (hbase : base ≤ w.heap.size)
    (h : ∀ v' w', w'.ownsRow base e size v' (n + m) (xs ++ news) → w.grownBy w' v.ownBlock → Moved w v v' → K (a.put o.dst v') w') :
    if Region.wanted o (yielded ops a.tmps) = true then Oper.wp P o a w K Q else E := by
  have hw : Region.wanted o (yielded ops a.tmps) = true := by simp [Region.wanted, hgd]
  rw [if_pos hw]
  exact wp_append_own2 s x t ho base e i z size bytes ht hi hz hsize hby hzs hsz v n xs hs hown ad m c news hx hl hnews h1 h63 hbytes hbase h
theorem set5 {w : World} {b : Nat} {z0 z1 z2 z3 z4 : Value} (h : w.heap[b]? = some (.cells #[z0, z1, z2, z3, z4] 44 (0, 0))) (v0 v1 v2 v3 v4 : Value) :
    (((((w.setCell ⟨b, 0, none⟩ v0).setCell ⟨b, 1, none⟩ v1).setCell ⟨b, 2, none⟩ v2).setCell ⟨b, 3, none⟩ v3).setCell ⟨b, 4, none⟩ v4).heap[b]? = some (.cells #[v0, v1, v2, v3, v4] 44 (0, 0)) := by
  have h0 := heap_set_eq (i := 0) (u := v0) h (by simp)
  have h1 := heap_set_eq (i := 1) (u := v1) h0 (by simp)
  have h2 := heap_set_eq (i := 2) (u := v2) h1 (by simp)
  have h3 := heap_set_eq (i := 3) (u := v3) h2 (by simp)
  have h4 := heap_set_eq (i := 4) (u := v4) h3 (by simp)
  simpa using h4
set_option maxRecDepth 1000000 in
set_option maxHeartbeats 12800000 in
theorem refOne_115 (s : ByteArray) (pc : Nat) (w : World) (hpc : pc < s.size) (hm : s.size ≤ 1000000) (hf : formP (b1 ((L s).drop pc) 0) = 115) :
    Calls Try.prog 24 #[.string s, .int .i64 pc] w fun e w' => OneE w (oneP pc ((L s).drop pc)) e w' := by
  have HF := fun W => refForm_any (b1 ((L s).drop pc) 0) W
  rw [hf] at HF
  have HONE := Lib.hid hf
  have hb := b1_here s pc hpc
  have hlt : (s[pc]'hpc).toNat < 256 := (s[pc]'hpc).toNat_lt
  obtain ⟨op, hop⟩ : ∃ op : Nat, (s[pc]'hpc).toNat = op := ⟨_, rfl⟩
  rw [hop] at hb hlt
  rw [hb] at HF
  have HOP := Lib.hid hop
  have HB := Lib.hid hb
  have hp1 : ((pc : Int) + 1).toNat = pc + 1 := by omega
  obtain ⟨t, ht⟩ : ∃ t, s.extract (pc + 1) s.size = t := ⟨_, rfl⟩
  have htl : L t = ((L s).drop pc).drop 1 := by rw [← ht, L_from, List.drop_drop]
  have hts : t.size = s.size - (pc + 1) := by rw [← ht, ByteArray.size_extract]; omega
  have HT := Lib.hid ht
  have HTL := Lib.hid htl
  have HTS := Lib.hid hts
  have hrl : ((L s).drop pc).length = s.size - pc := by rw [List.length_drop, ← size_L]
  have HRL := Lib.hid hrl
  have B0 := Lib.hid (((Below.refl w.heap.size w).alloc (Nat.le_refl _) (.cells #[.int .i64 0, .int .i64 0, .int .i64 0, .slice none 0 0, .slice none 0 0] 44)).alloc (by simp) (.cells #[.int .i64 pc, .int .i64 op, .int .i64 0, .slice none 0 0, .slice none 0 0] 44))
  clear hf hb htl hts hrl
  go_enter Try.func24, Try.ntmps24
  obtain ⟨i0, hi, hz0, hz1, hz2⟩ := info3
  go_wp2_with fail
  refine (HF _).mono ?_
  rintro e w4 ⟨rfl, rfl⟩
  by_cases hl : s.size - pc < 5
  · have HE := Lib.hid (one_115s (pc := pc) HONE.out (by rw [HRL.out]; exact hl))
    have htz : t.size < 4 := by have := HTS.out; omega
    clear hl hi hz0 hz1 hz2
    go_wp2
    refine bodyPost_ret (v := .tuple #[.agg #[.int .i64 pc, .int .i64 op, .int .i64 0, .slice none 0 0, .slice none 0 0], .int .i64 0, .int .i64 5]) (by simp [results, Try.results24, go_sem]) rfl ?_
    rw [HE.out]
    refine .inl ⟨by decide, ⟨_, _, _, _, _, _, _, _, _, rfl⟩, ?_⟩
    repeat (first | with_reducible exact (Below.refl _ _) | with_reducible exact (B0.out) | with_reducible refine below_dn ?_ _ | with_reducible refine Below.setCell ?_ (by first | (simp; done) | (simp; omega)) _ | with_reducible refine Below.alloc ?_ (by first | exact Nat.le_refl _ | (simp; done) | (simp; omega)) _)
  · have h5 : 5 ≤ s.size - pc := by omega
    have ht4 : 4 ≤ t.size := by have := HTS.out; omega
    have hts4 : t.size ≤ 1000000 := by have := HTS.out; omega
    have HTW := fun W => Lib.hid (jump_any t W (by omega))
    have hv : b2 (L t) 0 = b2 ((L s).drop pc) 1 := by rw [HTL.out, b2_drop]
    have HJV := Lib.hid hv
    obtain ⟨jv, hjv⟩ : ∃ jv, s16 (b2 (L t) 0) = jv := ⟨_, rfl⟩
    rw [hjv] at HTW
    have hsb := s16_bd (b2_bd (L t) 0)
    rw [hjv] at hsb
    have HJJ := Lib.hid hjv
    obtain ⟨t2, ht2⟩ : ∃ t2, t.extract 2 t.size = t2 := ⟨_, rfl⟩
    have hs2 : 2 ≤ t2.size := by rw [← ht2, ByteArray.size_extract]; omega
    have HN2 := fun W => Lib.hid (two_any t2 W hs2)
    have hv2 : b2 (L t2) 0 = b2 ((L s).drop pc) 3 := by rw [← ht2, L_from, HTL.out, b2_drop, b2_drop]
    rw [hv2] at HN2
    have hnb := b2_bd ((L s).drop pc) 3
    obtain ⟨n, hn⟩ : ∃ n : Nat, b2 ((L s).drop pc) 3 = n := ⟨(b2 ((L s).drop pc) 3).toNat, by omega⟩
    rw [hn] at HN2 hnb
    have HNN := Lib.hid hn
    have HNL := Lib.hid hl
    clear hl hv hv2 hn hjv
    go_wp2_with fail
    refine (HTW _).out.mono ?_
    rintro e w5 ⟨rfl, nd, rfl⟩
    go_wp2_with fail
    refine (HN2 _).out.mono ?_
    rintro e w6 ⟨rfl, nd2, hw6⟩
    have M0 : w6.heap[w.heap.size]? = some (.cells #[.int .i64 0, .int .i64 0, .int .i64 0, .slice none 0 0, .slice none 0 0] 44 (0, 0)) := by
      rw [hw6]
      exact heap_alloc_lt (heap_set_ne (by simp) (show (((w.alloc _).alloc _).drewN nd).heap[w.heap.size]? = _ from heap_alloc_lt (heap_new _ _)))
    have M1 : w6.heap[w.heap.size + 1]? = some (.cells #[.int .i64 pc, .int .i64 op, .int .i64 0, .slice none 0 0, .slice (some ⟨w.heap.size + 1 + 1, 0, none⟩) 1 1] 44 (0, 0)) := by
      rw [hw6]
      exact heap_alloc_lt (heap_set_eq (show (((w.alloc _).alloc _).drewN nd).heap[w.heap.size + 1]? = _ from heap_new_at _ _ _ (by simp)) (by simp))
    have M2 : w6.heap[w.heap.size + 1 + 1]? = some (.cells #[.int .i64 (pc + jv)] 3 (0, 0)) := by
      rw [hw6]
      exact heap_new_at _ _ _ (by show (World.setCell _ _ _).heap.size = _; simp)
    have hz6 := lt_of_block M2
    have B6 : Below w.heap.size w w6 := by
      rw [hw6]
      repeat (first | with_reducible exact (Below.refl _ _) | with_reducible exact (B0.out) | with_reducible refine below_dn ?_ _ | with_reducible refine Below.setCell ?_ (by first | (simp; done) | (simp; omega)) _ | with_reducible refine Below.alloc ?_ (by first | exact Nat.le_refl _ | (simp; done) | (simp; omega)) _)
    have OT6 : w6.ownsRow (w.heap.size + 1 + 1) 3 1 (.slice (some ⟨w.heap.size + 1 + 1, 0, none⟩) 1 1) 1 (icells (tosS pc (L t) 0)) := by
      have e1 : tosS pc (L t) 0 = [(pc : Int) + jv] := by unfold tosS; rw [HJJ.out]; rfl
      rw [e1]
      exact own_new (cs := [.int .i64 (pc + jv)]) M2 (Nat.le_refl _) rfl (by unfold maxLen; omega)
    have hM0 := Lib.hid M0
    have hM1 := Lib.hid M1
    have HB6 := Lib.hid B6
    have HOT6 := Lib.hid OT6
    have b0 := cells_of M1 0
    have b1' := cells_of M1 1
    have b2' := cells_of M1 2
    have b3' := cells_of M1 3
    have b4' := cells_of M1 4
    simp at b0 b1' b2' b3' b4'
    have r0 := cells_of M0 0
    have r1 := cells_of M0 1
    have r2 := cells_of M0 2
    have r3 := cells_of M0 3
    have r4 := cells_of M0 4
    simp at r0 r1 r2 r3 r4
    have f0 := free_of M0
    clear hw6 M0 M1 M2 B6 OT6
    by_cases hsz : t.size < 4 + 4 * n
    · have hsz' : (t.size : Int) < 4 + 4 * (n : Int) := by omega
      have HE := Lib.hid (one_115n (pc := pc) HONE.out (by rw [HRL.out, HNN.out]; have := HTS.out; omega))
      clear hsz hi hz0 hz1 hz2
      go_wp2
      refine bodyPost_ret (v := .tuple #[.agg #[.int .i64 pc, .int .i64 op, .int .i64 0, .slice none 0 0, .slice (some ⟨w.heap.size + 1 + 1, 0, none⟩) 1 1], .int .i64 0, .int .i64 5]) (by have hF := set5 hM0.out (.int .i64 pc) (.int .i64 op) (.int .i64 0) (.slice none 0 0) (.slice (some ⟨w.heap.size + 1 + 1, 0, none⟩) 1 1); have q0 := cells_of hF 0; have q1 := cells_of hF 1; have q2 := cells_of hF 2; have q3 := cells_of hF 3; have q4 := cells_of hF 4; simp at q0 q1 q2 q3 q4; generalize (((((w6.setCell ⟨w.heap.size, 0, none⟩ (.int .i64 pc)).setCell ⟨w.heap.size, 1, none⟩ (.int .i64 op)).setCell ⟨w.heap.size, 2, none⟩ (.int .i64 0)).setCell ⟨w.heap.size, 3, none⟩ (.slice none 0 0)).setCell ⟨w.heap.size, 4, none⟩ (.slice (some ⟨w.heap.size + 1 + 1, 0, none⟩) 1 1)) = W at *; simp [results, Try.results24, go_sem, q0, q1, q2, q3, q4]) rfl ?_
      rw [HE.out]
      refine .inl ⟨by decide, ⟨_, _, _, _, _, _, _, _, _, rfl⟩, ?_⟩
      repeat (first | with_reducible exact (HB6.out) | with_reducible refine Below.drew ?_ | with_reducible refine Below.setCell ?_ (by simp) _)
    · clear b0 b1' b2' b3' b4' r0 r1 r2 r3 r4 f0
      have hsz' : 4 + 4 * (n : Int) ≤ (t.size : Int) := by omega
      have HE := Lib.hid (show oneP pc ((L s).drop pc) = ⟨0, ⟨pc, (b1 ((L s).drop pc) 0 : Nat), 0, keysP ((L s).drop pc) n, ((pc : Int) + s16 (b2 ((L s).drop pc) 1)) :: tosP pc ((L s).drop pc) n⟩, 5 + 4 * n⟩ by have := one_115 (pc := pc) HONE.out (by rw [HRL.out, HNN.out]; have := HTS.out; omega); rwa [HNN.out, Int.toNat_natCast] at this)
      have HKS := Lib.hid (keysS_P _ _ HTL.out n)
      have HTO := Lib.hid (tosS_P pc _ _ HTL.out n)
      clear hsz
      go_wp2
      go_loopg [13] n (fun g i wx => ∃ (k : Nat) (kv tv : Value), i = .int .i64 k ∧ k + g = n ∧ SwAt w pc op t k k kv tv wx)
      case atStart => exact ⟨0, _, _, rfl, by omega, hM0.out, hM1.out, by omega, World.ownsRow_nil _ _ _ _, HOT6.out, Sep.nil _, HB6.out⟩
      case round =>
        obtain ⟨k, kv, tv, rfl, hkg, hsw⟩ := hrel
        have SW := Lib.hid hsw
        obtain ⟨ak, ck, rfl⟩ := own_form hsw.2.2.2.1
        obtain ⟨a_t, c_t, rfl⟩ := own_form hsw.2.2.2.2.1
        have m3 : wr.cell? ⟨w.heap.size + 1, 3, none⟩ = some (.slice ak k ck) := cells_of hsw.2.1 3
        have hml := lt_of_block hsw.2.1
        have hbs := hsw.2.2.1
        clear hsw
        by_cases hlt : k < n
        · have hgg : gk - 1 < gk := by omega
          obtain ⟨t3, ht3⟩ : ∃ t3, t.extract (4 + 4 * k) t.size = t3 := ⟨_, rfl⟩
          have hs3 : 2 ≤ t3.size := by rw [← ht3, ByteArray.size_extract]; omega
          have hv3 : b2 (L t3) 0 = b2 (L t) (4 + 4 * k) := by rw [← ht3, L_from, b2_drop]; rfl
          have HT3 := fun W => Lib.hid (two_any t3 W hs3)
          rw [hv3] at HT3
          have hw1 : IntKind.i64.wrap (4 * (k : Int)) = 4 * (k : Int) := IntWalk.i64_in _ (by omega)
          have hw2 : IntKind.i64.wrap (4 + 4 * (k : Int)) = 4 + 4 * (k : Int) := IntWalk.i64_in _ (by omega)
          have htn : (4 + 4 * (k : Int)).toNat = 4 + 4 * k := by omega
          have hn1 : 0 ≤ 4 + 4 * (k : Int) := by omega
          have hn2 : 4 + 4 * (k : Int) ≤ (t.size : Int) := by omega
          obtain ⟨xk, hxk⟩ : ∃ x, b2 (L t) (4 + 4 * k) = x := ⟨_, rfl⟩
          rw [hxk] at HT3
          have HXK := Lib.hid hxk
          clear hv3 hxk
          have hload : ∀ (j : Nat) (o : Obj), ((wr.drewN j).alloc o).cell? ⟨w.heap.size + 1, 3, none⟩ = some (.slice ak k ck) := fun j o => (World.cell?_alloc_lt _ _ _ hml).trans m3
          go_upto_region 34 with fail
          go_cut [] (fun wx => ∃ v3, SwAt w pc op t (k + 1) k v3 (.slice a_t (k + 1) c_t) wx)
          case first =>
            go_region_law (first
              | (go_simp; go_at_call 34; refine (HT3 _).out.mono ?_; rintro e wi ⟨rfl, ndx, rfl⟩; try go_wp2_with fail)
              | (refine step_append_own2 rfl (.tmp 88) (.tmp 95) 34 rfl (w.heap.size + 1 + 1) 3 i0 (.int .i64 0) 1 8 Try.underlying34 hi hz0 hz1 hz2 rfl (by decide) (.slice ak k ck) k (icells (keysS (L t) k)) rfl (World.ownsRow.alloc (own_below SW.out.2.2.2.1 (below_dn (Below.refl _ _) _)) _) ⟨_, 0, none⟩ 1 1 [.int .i64 xk] rfl rfl (new_at _ [.int .i64 xk] 3 _ rfl) (int_cells .i64 [xk]) (by unfold maxLen; omega) (by omega) (by simp; omega) ?_
                 intro v3 w3 own3 hg3 hm3
                 have hres := Lib.hid (SW.out.key (below_dn (Below.refl _ _) _) own3 hg3 hm3 HXK.out)
                 obtain ⟨m33, m34, f33⟩ := SW.out.after (below_dn (Below.refl _ _) _) (own_below SW.out.2.2.2.1 (below_dn (Below.refl _ _) _)) hg3
                 obtain ⟨a3, c3, rfl⟩ := own_form own3
                 clear own3 hg3 hm3))
            all_goals (go_wp2_with fail; go_meet; exact ⟨_, hres.out⟩)
          case rest =>
            obtain ⟨v3, hsw⟩ := hcut
            clear hload m3 hml hbs hw1 hw2 htn hn1 hn2 HT3 SW
            obtain ⟨wr, hwr⟩ : ∃ x, x = wc := ⟨_, rfl⟩
            subst hwr
            have SW := Lib.hid hsw
            obtain ⟨ak, ck, rfl⟩ := own_form hsw.2.2.2.1
            have m4 : wr.cell? ⟨w.heap.size + 1, 4, none⟩ = some (.slice a_t (k + 1) c_t) := cells_of hsw.2.1 4
            have hml := lt_of_block hsw.2.1
            have hbs := hsw.2.2.1
            clear hsw
            obtain ⟨t5, ht5⟩ : ∃ t5, t.extract (6 + 4 * k) t.size = t5 := ⟨_, rfl⟩
            have hs5 : 2 ≤ t5.size := by rw [← ht5, ByteArray.size_extract]; omega
            have hv5 : b2 (L t5) 0 = b2 (L t) (6 + 4 * k) := by rw [← ht5, L_from, b2_drop]; rfl
            have HT5 := fun W => Lib.hid (jump_any t5 W hs5)
            rw [hv5] at HT5
            have hw1 : IntKind.i64.wrap (4 * (k : Int)) = 4 * (k : Int) := IntWalk.i64_in _ (by omega)
            have hw2 : IntKind.i64.wrap (6 + 4 * (k : Int)) = 6 + 4 * (k : Int) := IntWalk.i64_in _ (by omega)
            have htn : (6 + 4 * (k : Int)).toNat = 6 + 4 * k := by omega
            have hn1 : 0 ≤ 6 + 4 * (k : Int) := by omega
            have hn2 : 6 + 4 * (k : Int) ≤ (t.size : Int) := by omega
            have hsb5 := s16_bd (b2_bd (L t) (6 + 4 * k))
            obtain ⟨xj, hxj⟩ : ∃ x, s16 (b2 (L t) (6 + 4 * k)) = x := ⟨_, rfl⟩
            rw [hxj] at HT5 hsb5
            have hw3 : IntKind.i64.wrap ((pc : Int) + xj) = (pc : Int) + xj := IntWalk.i64_in _ (by omega)
            have HXJ := Lib.hid (show (pc : Int) + s16 (b2 (L t) (6 + 4 * k)) = (pc : Int) + xj by rw [hxj])
            clear hv5 hxj
            have hload : ∀ (j : Nat) (o : Obj), ((wr.drewN j).alloc o).cell? ⟨w.heap.size + 1, 4, none⟩ = some (.slice a_t (k + 1) c_t) := fun j o => (World.cell?_alloc_lt _ _ _ hml).trans m4
            go_wp2
            go_region_law (first
                | (go_simp; go_at_call 35; refine (HT5 _).out.mono ?_; rintro e wi ⟨rfl, ndx, rfl⟩; try go_wp2_with fail)
                | (refine step_append_own2 rfl (.tmp 99) (.tmp 108) 34 rfl (w.heap.size + 1 + 1) 3 i0 (.int .i64 0) 1 8 Try.underlying34 hi hz0 hz1 hz2 rfl (by decide) (.slice a_t (k + 1) c_t) (k + 1) (icells (tosS pc (L t) k)) rfl (World.ownsRow.alloc (own_below SW.out.2.2.2.2.1 (below_dn (Below.refl _ _) _)) _) ⟨_, 0, none⟩ 1 1 [.int .i64 (pc + xj)] rfl rfl (new_at _ [.int .i64 (pc + xj)] 3 _ rfl) (int_cells .i64 [(pc : Int) + xj]) (by unfold maxLen; omega) (by omega) (by simp; omega) ?_
                   intro v3 w3 own3 hg3 hm3
                   have hres := Lib.hid (SW.out.to_ (below_dn (Below.refl _ _) _) own3 hg3 hm3 HXJ.out)
                   obtain ⟨m33, m34, f33⟩ := SW.out.after (below_dn (Below.refl _ _) _) (own_below SW.out.2.2.2.2.1 (below_dn (Below.refl _ _) _)) hg3
                   obtain ⟨a3, c3, rfl⟩ := own_form own3
                   clear own3 hg3 hm3))
            all_goals
              clear hload m4 hml hbs hw1 hw2 htn hn1 hn2 HT5 SW hw3 m33 m34 f33
              go_wp2
              go_roundg (gk - 1)
              case measure => exact hgg
              case rel => exact ⟨k + 1, _, _, by go_num, by omega, hres.out⟩
        · obtain rfl : k = n := by omega
          obtain ⟨hM0, hM, hbs, hok, hot, hsep, hb⟩ := SW.out
          have q0 := cells_of hM 0
          have q1 := cells_of hM 1
          have q2 := cells_of hM 2
          have q3 := cells_of hM 3
          have q4 := cells_of hM 4
          simp at q0 q1 q2 q3 q4
          have r0 := cells_of hM0 0
          have r1 := cells_of hM0 1
          have r2 := cells_of hM0 2
          have r3 := cells_of hM0 3
          have r4 := cells_of hM0 4
          simp at r0 r1 r2 r3 r4
          have f0 := free_of hM0
          clear hM0 hM hok hot hsep hb m3
          go_wp2
          refine bodyPost_ret (v := .tuple #[.agg #[.int .i64 pc, .int .i64 op, .int .i64 0, .slice ak k ck, .slice a_t (k + 1) c_t], .int .i64 (5 + 4 * (k : Int)), .int .i64 0]) (by have hF := set5 SW.out.1 (.int .i64 pc) (.int .i64 op) (.int .i64 0) (.slice ak k ck) (.slice a_t (k + 1) c_t); have q0 := cells_of hF 0; have q1 := cells_of hF 1; have q2 := cells_of hF 2; have q3 := cells_of hF 3; have q4 := cells_of hF 4; simp at q0 q1 q2 q3 q4; generalize (((((wr.setCell ⟨w.heap.size, 0, none⟩ (.int .i64 pc)).setCell ⟨w.heap.size, 1, none⟩ (.int .i64 op)).setCell ⟨w.heap.size, 2, none⟩ (.int .i64 0)).setCell ⟨w.heap.size, 3, none⟩ (.slice ak k ck)).setCell ⟨w.heap.size, 4, none⟩ (.slice a_t (k + 1) c_t)) = W at *; simp [results, Try.results24, go_sem, q0, q1, q2, q3, q4]) rfl ?_
          rw [HE.out]
          obtain ⟨hM0, hM, hbs, hok, hot, hsep, hb⟩ := SW.out
          refine .inr ⟨rfl, .slice ak k ck, .slice a_t (k + 1) c_t, by rw [HB.out]; simp, ?_, ?_, ?_⟩
          · unfold IOwn
            simp only
            rw [← HKS.out, keysS_len]
            exact own_mono (own_set5 hok (by omega) _ _ _ _ _) (by omega)
          · unfold IOwn
            simp only
            rw [← HTO.out, tosS_len]
            exact own_mono (own_set5 hot (by omega) _ _ _ _ _) (by omega)
          · repeat (first | with_reducible exact hb | with_reducible refine Below.drew ?_ | with_reducible refine Below.setCell ?_ (by simp) _)
end Go.Proofs.Ytbeelcklbdnjnaa
