/-
  CUT and joined from the texts of this seat: Re Rf
-/
import Derived.Test.YtmaknddlgppinaaGreatDoorT34
import Derived.Test.YtmaknddlgppinaaGreatDoorT02
import Derived.Test.YtmaknddlgppinaaGreatDoorT13
import Derived.Test.YtmaknddlgppinaaGreatDoorT12
set_option linter.unusedVariables false
set_option linter.unusedSimpArgs false
namespace Go.Proofs.YtmaknddlgppinaaGreatDoor
open Go.RowKit
/-- The box of what Find answers, without its interfaces. -/
def NBoxAt (cs : List PC) (nm : List UInt8) (q : Nat) (b : Bool) (w : World) : Prop :=
 (b = false ∧ ix cs nm = none ∧ ∃ x0 x1 x2 x3 x4 x5 x6, w.heap[q]? = some (.cells #[x0, x1, x2, x3, x4, x5, x6] 119 (0, 0))) ∨
 (b = true ∧ ∃ i c, ∃ k : KC, ∃ x2 x3 x4 x5 x6, ix cs nm = some i ∧ cs[i]? = some c ∧ Nmd k c ∧ w.heap[q]? = some (.cells #[.string k.name, .string k.super, x2, x3, x4, x5, x6] 119 (0, 0)))
theorem NBoxAt.cells {cs : List PC} {nm : List UInt8} {q : Nat} {b : Bool} {w : World} (h : NBoxAt cs nm q b w) : ∃ x0 x1 x2 x3 x4 x5 x6, w.heap[q]? = some (.cells #[x0, x1, x2, x3, x4, x5, x6] 119 (0, 0)) := by
 rcases h with ⟨_, _, h⟩ | ⟨_, i, c, k, x2, x3, x4, x5, x6, _, _, _, h⟩
 ·exact h
 ·exact ⟨_, _, _, _, _, _, _, h⟩
theorem NBoxAt.link {cs : List PC} {nm : List UInt8} {q : Nat} {b : Bool} {w w' : World} (h : NBoxAt cs nm q b w) (hk : ∀ x, w.heap[q]? = some x → w'.heap[q]? = some x) : NBoxAt cs nm q b w' := by
 rcases h with ⟨h1, h2, x0, x1, x2, x3, x4, x5, x6, h⟩ | ⟨h1, i, c, k, x2, x3, x4, x5, x6, h2, h3, h4, h⟩
 ·exact .inl ⟨h1, h2, _, _, _, _, _, _, _, hk _ h⟩
 ·exact .inr ⟨h1, i, c, k, x2, x3, x4, x5, x6, h2, h3, h4, hk _ h⟩
section
variable {B p ow cap : Nat} {A : Option Addr} {cs : List PC} {w : World}
set_option maxRecDepth 1000000 in
set_option maxHeartbeats 12800000 in
theorem RChain_any (h : RT B p A cap cs ow w) (G : Good cs) (s : ByteArray) (hs : s.size ≤ 1000000) :
  Calls Tryz.prog 74 #[.pointer (some ⟨p, 0, none⟩), .string s] w fun e w' => ∃ v l, e = .returned v ∧ (∀ i, ix cs s.data.toList = some i → Ch cs i l) ∧ (ix cs s.data.toList = none → l = []) ∧ OwnS w' w.heap.size v (nms cs l) ∧ Below w.heap.size w w' := by
 obtain ⟨l, hl1, hl2⟩ : ∃ l, (∀ i, ix cs s.data.toList = some i → Ch cs i l) ∧ (ix cs s.data.toList = none → l = []) := by
  cases hx : ix cs s.data.toList with
  | none => exact ⟨[], fun i hi => (by cases hi), fun _ => rfl⟩
  | some i =>
   obtain ⟨l, hl⟩ := ch_some G.acyc _ i (Nat.le_refl _)
   exact ⟨l, fun j hj => (by cases hj; exact hl), fun hn => (by cases hn)⟩
 have hstart : ix cs s.data.toList = l[0]? := by
  cases hx : ix cs s.data.toList with
  | none => rw [hl2 hx]; rfl
  | some i => rw [(hl1 i hx).head]
 have hlt : ∀ x ∈ l, x < cs.length := fun x hx => by
  cases hi : ix cs s.data.toList with
  | none => rw [hl2 hi] at hx; cases hx
  | some i => exact (hl1 i hi).lt (ix_lt hi) hx
 have hnext : ∀ (k x : Nat) (c : PC), l[k]? = some x → cs[x]? = some c → ix cs c.super = l[k + 1]? := fun k x c hx hc => by
  have e : sup cs x = ix cs c.super := by unfold sup; rw [hc]
  rw [← e]
  cases hi : ix cs s.data.toList with
  | none => rw [hl2 hi] at hx; cases hx
  | some i =>
   cases hsx : sup cs x with
   | none =>
    have := (hl1 i hi).step_none hx hsx
    rw [List.getElem?_eq_none (by omega)]
   | some y => rw [(hl1 i hi).step_some hx hsx]
 have hll : l.length ≤ 1000 := by
  cases hi : ix cs s.data.toList with
  | none => rw [hl2 hi]; simp
  | some i =>
   have hnd : l.Nodup := (hl1 i hi).nodup G
   have := nodup_le hnd (m := List.range cs.length) (fun x hx => List.mem_range.2 (hlt x hx))
   have h2 := h.few
   simp at this
   omega
 have FX := Lib.hid (fun W (hb : Below w.heap.size w W) x hx => RFind_any (h.link hb) x hx)
 have HN := Lib.hid hnext
 have HS := Lib.hid hstart
 have HL := Lib.hid (And.intro hl1 hl2)
 obtain ⟨i9, hi9, hz0, hz1, hz2⟩ := info9
 obtain ⟨sn, hsn⟩ : ∃ x, x = s.data.toList := ⟨_, rfl⟩
 rw [← hsn] at HS HL
 rw [← hsn]
 have HSN := Lib.hid hsn
 obtain ⟨LL, hLL⟩ : ∃ x, x = l.length := ⟨_, rfl⟩
 have HLL := Lib.hid hLL
 rw [← hLL] at hll
 clear h hstart hlt hnext hl1 hl2 hsn hLL
 go_enter Tryz.func74, Tryz.ntmps74
 go_upto_region 2 with fail
 go_cut [6, 7] (fun v6 v7 wx => ∃ (q : Nat) (b : Bool), v6 = .pointer (some ⟨q, 0, none⟩) ∧ v7 = .bool b ∧ NBoxAt cs sn q b wx ∧ w.heap.size ≤ q ∧ Below w.heap.size w wx)
 case first =>
  go_wp2_with fail
  refine (FX.out _ (Below.refl _ _) s hs).mono ?_
  rintro e w1 ⟨hfa, hb⟩
  rw [← HSN.out] at hfa
  have B1 := Lib.hid hb
  rcases hfa with ⟨h1, rfl⟩ | ⟨i, d, k, ifn, h1, h2, h3, h4, rfl⟩
  ·have H1 := Lib.hid h1
   clear h1 hb
   unfold zeroCls
   go_wp2
   go_meet
   case rel => exact ⟨_, false, rfl, rfl, .inl ⟨rfl, H1.out, _, _, _, _, _, _, _, hheap_new _ _⟩, B1.out.size, B1.out.alloc B1.out.size _⟩
  ·obtain ⟨a4, c4, rfl, _⟩ := h4.length
   have H1 := Lib.hid h1
   have H2 := Lib.hid h2
   have H3 := Lib.hid h3
   clear h1 h2 h3 h4 hb
   go_wp2
   go_meet
   case rel => exact ⟨_, true, rfl, rfl, .inr ⟨rfl, i, d, k, _, _, _, _, _, H1.out, H2.out, H3.out, hheap_new _ _⟩, B1.out.size, B1.out.alloc B1.out.size _⟩
 obtain ⟨q, b, rfl, rfl, hbox, hq, hb⟩ := hcut
 obtain ⟨V, hV⟩ : ∃ x, x = wc := ⟨_, rfl⟩
 subst hV
 have BX := Lib.hid hbox
 have BV := Lib.hid hb
 clear hbox hb
 go_wp2
 go_loopg [5, 7] LL (fun g v5 v7 wx => ∃ (j : Nat) (nm : List UInt8) (b : Bool), v7 = .bool b ∧ NBoxAt cs nm q b wx ∧ ix cs nm = l[j]? ∧ j + g = LL ∧ OwnS wx w.heap.size v5 (nms cs (l.take j)) ∧ Below w.heap.size w wx)
 case atStart => exact ⟨0, sn, b, rfl, BX.out, HS.out, by omega, OwnS.nil _ _, BV.out⟩
 case round =>
  obtain ⟨j, nm, b, rfl, hbox, hix, hjg, hown, hbx⟩ := hrel
  have HB := Lib.hid hbx
  have hbs := hbx.size
  have HIX := Lib.hid hix
  rcases hbox with ⟨rfl, h1, x0, x1, x2, x3, x4, x5, x6, hqc⟩ | ⟨rfl, i, c, k, x2, x3, x4, x5, x6, h1, h2, h3, hqc⟩
  ·have HO := Lib.hid hown
   have H1 := Lib.hid h1
   obtain ⟨a0, c0, rfl⟩ := hown.form
   clear hown hbx hix h1 hqc
   go_wp2
   go_ret
   have hj : LL ≤ j := by
    have := HIX.out
    rw [H1.out] at this
    have := List.getElem?_eq_none_iff.1 this.symm
    rw [HLL.out]
    exact this
   have e2 : nms cs (l.take j) = nms cs l := by rw [List.take_of_length_le (by rw [← HLL.out]; exact hj)]
   refine ⟨_, l, rfl, HL.out.1, HL.out.2, ?_, HB.out⟩
   show OwnS wr w.heap.size (.slice a0 (nms cs (l.take j)).length c0) (nms cs l)
   rw [← e2]
   exact HO.out
  ·have hlj : l[j]? = some i := by rw [← hix, h1]
   have hjl : j < LL := by rw [HLL.out]; exact (List.getElem?_eq_some_iff.1 hlj).1
   have HLJ := Lib.hid hlj
   have H2 := Lib.hid h2
   have H3 := Lib.hid h3
   obtain ⟨ss, hss, hsz, hso⟩ := hown
   have hsl : ss.length = j := by
    have := congrArg List.length hss
    rw [List.length_map] at this
    rw [this]
    unfold nms
    rw [List.length_map, List.length_take]
    have := HLL.out
    omega
   rw [hsl] at hso
   have HSS := Lib.hid (And.intro hss (And.intro hsz hsl))
   have HO := Lib.hid hso
   obtain ⟨a0, c0, rfl⟩ := hown_form hso
   have HNE := Lib.hid (hown_ne hso hqc (by decide))
   have q0 := kcells_of hqc 0
   have q1 := kcells_of hqc 1
   simp only [List.getElem?_toArray, List.getElem?_cons_succ, List.getElem?_cons_zero] at q0 q1
   have HQC := Lib.hid hqc
   have hql := lt_of_block hqc
   obtain ⟨nmb, hnmb⟩ : ∃ x, x = k.name := ⟨_, rfl⟩
   obtain ⟨spb, hspb⟩ : ∃ x, x = k.super := ⟨_, rfl⟩
   have HNM := Lib.hid (show nmb.data.toList = c.name by rw [hnmb]; exact h3.nm)
   have hnz : nmb.size ≤ 1000000 := by rw [hnmb]; exact h3.nsz
   have HSP := Lib.hid (show spb.data.toList = c.super by rw [hspb]; exact h3.sp)
   have hspz : spb.size ≤ 1000000 := by rw [hspb]; exact h3.ssz
   rw [← hnmb, ← hspb] at HQC
   rw [← hnmb] at q0
   rw [← hspb] at q1
   clear hbx hix h1 h2 h3 hqc hss hsz hsl hso hlj hnmb hspb BX
   go_upto_region 4 with fail
   go_cut [5] (fun v5 wx => wx.ownsRow w.heap.size 9 1 v5 (j + 1) (scells ss ++ [.string nmb]) ∧ wx.heap[q]? = some (.cells #[.string nmb, .string spb, x2, x3, x4, x5, x6] 119 (0, 0)) ∧ Below w.heap.size w wx)
   case first =>
    go_wp2_with (at_builtin; refine hwpList_append_own2 rfl (.tmp 15) (.tmp 18) 45 rfl w.heap.size 9 i9 (.string ⟨#[]⟩) 1 16 und45c hi9 hz0 hz1 hz2 rfl (by decide) (.slice a0 j c0) j _ rfl (World.ownsRow.alloc HO.out _) ⟨_, 0, none⟩ 1 1 [.string nmb] rfl rfl (knew_at _ [.string nmb] 9 _ (by simp)) (fun u hu => by simp at hu; subst hu; rfl) (by unfold maxLen; omega) (by omega) (by simp; omega) ?_; intro v3 w3 own3 hg3 hm3; obtain ⟨a3, c3, rfl⟩ := hown_form own3; have OW3 := Lib.hid own3; have HG3 := Lib.hid hg3; clear own3 hg3 hm3)
    go_meet
    case rel => exact ⟨OW3.out, grown_block HG3.out (hheap_alloc_lt HQC.out) HNE.out, Below.grown (HB.out.alloc hbs _) HG3.out (by simp; omega) (fun q hq => hown_block_ge HO.out q hq)⟩
   obtain ⟨hso, hqc, hbx⟩ := hcut
   obtain ⟨V1, hV1⟩ : ∃ x, x = wc := ⟨_, rfl⟩
   subst hV1
   obtain ⟨a1, c1, rfl⟩ := hown_form hso
   have SO1 := Lib.hid hso
   have Q1 := Lib.hid hqc
   have B1 := Lib.hid hbx
   have q0' := kcells_of hqc 0
   have q1' := kcells_of hqc 1
   simp only [List.getElem?_toArray, List.getElem?_cons_succ, List.getElem?_cons_zero] at q0' q1'
   clear hso hqc hbx q0 q1 HO HQC
   go_wp2_with fail
   refine (FX.out _ B1.out spb hspz).mono ?_
   rintro e w2 ⟨hfa, hb2⟩
   rw [HSP.out] at hfa
   have B2 := Lib.hid (B1.out.trans (hb2.mono B1.out.size))
   have Q2 := Lib.hid ((hb2.block q (lt_of_block Q1.out)).trans Q1.out)
   have SO2 := Lib.hid (hown_below SO1.out hb2)
   have NE2 := Lib.hid (hown_ne SO2.out Q2.out (by decide))
   have KF2 := kfree_of Q2.out
   have kq := kcells_of Q2.out
   have k0 := kq 0
   have k1 := kq 1
   have k2 := kq 2
   have k3 := kq 3
   have k4 := kq 4
   have k5 := kq 5
   have k6 := kq 6
   simp only [List.getElem?_toArray, List.getElem?_cons_succ, List.getElem?_cons_zero] at k0 k1 k2 k3 k4 k5 k6
   have NX := Lib.hid (HN.out j i c HLJ.out H2.out)
   have step : ∀ (y0 y1 y2 y3 y4 y5 y6 : Value) (b' : Bool) (WF : World), WF = ((((((w2.setCell ⟨q, 0, none⟩ y0).setCell ⟨q, 1, none⟩ y1).setCell ⟨q, 2, none⟩ y2).setCell ⟨q, 3, none⟩ y3).setCell ⟨q, 4, none⟩ y4).setCell ⟨q, 5, none⟩ y5).setCell ⟨q, 6, none⟩ y6 → (∀ W : World, W.heap[q]? = some (.cells #[y0, y1, y2, y3, y4, y5, y6] 119 (0, 0)) → NBoxAt cs c.super q b' W) →
     NBoxAt cs c.super q b' WF ∧ OwnS WF w.heap.size (.slice a1 (j + 1) c1) (nms cs (l.take (j + 1))) ∧ Below w.heap.size w WF := by
    intro y0 y1 y2 y3 y4 y5 y6 b' WF hWF hN
    have z := fset7 Q2.out y0 y1 y2 y3 y4 y5 y6
    have hbe := fbelow7 (b := q) B2.out hq y0 y1 y2 y3 y4 y5 y6
    have hbut : HBut q q w2 WF := by
     rw [hWF]
     exact (((((((HBut.refl _ _ w2).set _ (.inl rfl)).set _ (.inl rfl)).set _ (.inl rfl)).set _ (.inl rfl)).set _ (.inl rfl)).set _ (.inl rfl)).set _ (.inl rfl)
    rw [← hWF] at z hbe
    have so := hown_but SO2.out hbut NE2.out NE2.out
    refine ⟨hN _ z, ?_, hbe⟩
    obtain ⟨hss, hsz, hsl⟩ := HSS.out
    rw [nms_snoc HLJ.out H2.out]
    rw [← hsl] at so
    have := OwnS.snoc (wr := w2) (v := .bool true) hss hsz HNM.out hnz so
    rw [hsl] at this
    exact this
   have ST := Lib.hid step
   clear step hb2 kq q0' q1'
   rcases hfa with ⟨h1, rfl⟩ | ⟨i', d, k', ifn, h1, h2, h3, h4, rfl⟩
   ·have H1' := Lib.hid h1
    clear h1
    unfold zeroCls
    go_wp2
    go_roundg (gk - 1)
    case measure => omega
    case rel =>
     obtain ⟨r1, r2, r3⟩ := ST.out _ _ _ _ _ _ _ false _ rfl (fun W hW => .inl ⟨rfl, H1'.out, _, _, _, _, _, _, _, hW⟩)
     exact ⟨j + 1, c.super, false, rfl, r1, NX.out, by omega, r2, r3⟩
   ·obtain ⟨a4, c4, rfl, _⟩ := h4.length
    have H1' := Lib.hid h1
    have H2' := Lib.hid h2
    have H3' := Lib.hid h3
    clear h1 h2 h3 h4
    go_wp2
    go_roundg (gk - 1)
    case measure => omega
    case rel =>
     obtain ⟨r1, r2, r3⟩ := ST.out _ _ _ _ _ _ _ true _ rfl (fun W hW => .inr ⟨rfl, i', d, k', _, _, _, _, _, H1'.out, H2'.out, H3'.out, hW⟩)
     exact ⟨j + 1, c.super, true, rfl, r1, NX.out, by omega, r2, r3⟩
end
/-- The first of one list that stands in another; Object if none does. -/
def ComIs (a b : List (List UInt8)) (r : List UInt8) : Prop :=
 (∃ k : Nat, a[k]? = some r ∧ r ∈ b ∧ ∀ (n : Nat) (y : List UInt8), n < k → a[n]? = some y → y ∉ b) ∨ ((∀ x ∈ a, x ∉ b) ∧ r = objB)
set_option maxRecDepth 1000000 in
set_option maxHeartbeats 6400000 in
theorem Rcommon_any (B : Nat) (a b : List (List UInt8)) (va vb : Value) (w : World) (ha : SRow B w va a) (hb : SRow B w vb b) (hB : B ≤ w.heap.size) :
  Calls Tryz.prog 73 #[va, vb] w fun e w' => (∃ s : ByteArray, e = .returned (.string s) ∧ ComIs a b s.data.toList ∧ s.size ≤ 1000000) ∧ RDrawn w w' := by
 obtain ⟨Aa, ca, rfl, hca, hma⟩ := ha.length
 obtain ⟨Ab, cb, rfl, hcb, hmb⟩ := hb.length
 unfold maxLen at hma hmb
 have HA := Lib.hid ha
 have HB := Lib.hid hb
 obtain ⟨n, hn⟩ : ∃ n, a.length = n := ⟨_, rfl⟩
 obtain ⟨m, hm⟩ : ∃ m, b.length = m := ⟨_, rfl⟩
 rw [hn] at hca hma HA ⊢
 rw [hm] at hcb hmb HB ⊢
 have HNN := Lib.hid hn
 have HMM := Lib.hid hm
 clear ha hb hn hm
 go_enter Tryz.func73, Tryz.ntmps73
 go_wp2
 go_loopg [5] n (fun g v5 wx => ∃ k : Nat, v5 = .int .i64 k ∧ k + g = n ∧ (∀ (j : Nat) (y : List UInt8), j < k → a[j]? = some y → y ∉ b) ∧ RDrawn w wx)
 case atStart => exact ⟨0, rfl, by omega, fun _ _ h => by omega, RDrawn.refl _⟩
 case round =>
  obtain ⟨k, rfl, hkg, hpre, hd⟩ := hrel
  have HD := Lib.hid hd
  have HP := Lib.hid hpre
  clear hd hpre
  obtain ⟨W0, hW0⟩ : ∃ x, x = wr := ⟨_, rfl⟩
  subst hW0
  obtain ⟨G0, hG0⟩ : ∃ x, x = gk := ⟨_, rfl⟩
  subst hG0
  by_cases hlt : k < n
  ·obtain ⟨x, hx⟩ : ∃ x, a[k]? = some x := ⟨_, List.getElem?_eq_getElem (by rw [HNN.out]; exact hlt)⟩
   have HX := Lib.hid hx
   clear hx
   go_wp2
   go_loopg [6] m (fun g v6 wx => ∃ j : Nat, v6 = .int .i64 j ∧ j + g = m ∧ (∀ (i : Nat) (y : List UInt8), i < j → b[i]? = some y → x ≠ y) ∧ RDrawn w wx)
   case atStart => exact ⟨0, rfl, by omega, fun _ _ h => by omega, HD.out⟩
   case round =>
    obtain ⟨j, rfl, hjg, hpre, hd⟩ := hrel
    have HD1 := Lib.hid hd
    have HP1 := Lib.hid hpre
    have hsz := hd.below.size
    clear hd hpre
    by_cases hlj : j < m
    ·obtain ⟨y, hy⟩ : ∃ y, b[j]? = some y := ⟨_, List.getElem?_eq_getElem (by rw [HMM.out]; exact hlj)⟩
     obtain ⟨ba, oa, sx, rfl, hba, cx, hsx, hzx⟩ := (HD1.out.srow HA.out).at_ HX.out
     obtain ⟨bb, ob, sy, rfl, hbb, cy, hsy, hzy⟩ := (HD1.out.srow HB.out).at_ hy
     have HY := Lib.hid hy
     have hbaw : ba < wr.heap.size := by omega
     have hbbw : bb < wr.heap.size := by omega
     have hst : sx.toList = sy.toList ↔ x = y := by rw [← hsx, ← hsy, Lib.toList_data, Lib.toList_data]
     have HSX := Lib.hid hsx
     clear hy hsx hsy
     by_cases he : x = y
     ·have e1 : (sx.toList == sy.toList) = true := by simpa using hst.2 he
      have HE := Lib.hid he
      clear he hst
      go_wp2
      go_quiet (fail)
      go_wp2
      go_ret
      refine ⟨⟨sx, rfl, .inl ⟨k, by rw [HSX.out]; exact HX.out, by rw [HSX.out, HE.out]; exact List.mem_of_getElem? HY.out, HP.out⟩, hzx⟩, HD1.out.step _⟩
     ·have e1 : (sx.toList == sy.toList) = false := by simpa using fun h => he (hst.1 h)
      have HE := Lib.hid he
      clear he hst
      go_wp2
      go_quiet (fail)
      go_wp2
      go_roundg (gk - 1)
      case measure => omega
      case rel =>
       refine ⟨j + 1, by go_num, by omega, fun i z hi hz => ?_, HD1.out.step _⟩
       by_cases hij : i = j
       ·subst hij
        rw [HY.out] at hz
        cases hz
        exact HE.out
       ·exact HP1.out i z (by omega) hz
    ·have hjm : j = m := by omega
     subst hjm
     go_wp2
     go_roundg (G0 - 1)
     case measure => omega
     case rel =>
      refine ⟨k + 1, by go_num, by omega, fun i z hi hz hzb => ?_, HD1.out⟩
      by_cases hik : i = k
      ·subst hik
       rw [HX.out] at hz
       cases hz
       obtain ⟨i', hi'⟩ := List.getElem?_of_mem hzb
       exact HP1.out i' x (by have := (List.getElem?_eq_some_iff.1 hi').1; rw [HMM.out] at this; exact this) hi' rfl
      ·exact HP.out i z (by omega) hz hzb
  ·have hkn : k = n := by omega
   subst hkn
   go_wp2
   go_ret
   refine ⟨⟨⟨#[79, 98, 106, 101, 99, 116]⟩, rfl, .inr ⟨fun z hz => ?_, rfl⟩, by decide⟩, HD.out⟩
   obtain ⟨i, hi⟩ := List.getElem?_of_mem hz
   exact HP.out i z (by have := (List.getElem?_eq_some_iff.1 hi).1; rw [HNN.out] at this; exact this) hi
/-- The names of a table are right. -/
def NamesOk (cs : List PC) : Prop := ∀ c ∈ cs, nameL c.name = true
set_option maxRecDepth 1000000 in
set_option maxHeartbeats 3200000 in
theorem RRight_any (d : Int) (s : ByteArray) (w : World) (hs : s.size ≤ 1000000) :
  Calls Tryz.prog 101 #[.agg #[.int .i64 d, .string s]] w fun e w' => e = .returned (.bool (rightT d (L s))) ∧ Below w.heap.size w w' := by
 have N := Lib.hid (refName_any s (w.alloc (.cells #[.int .i64 d, .string s] 31)) hs)
 have HE := Lib.hid (show rightT d (L s) = (decide (0 ≤ d) && (decide (d ≤ 4) && (decide (L s = []) || nameL (L s)))) from rfl)
 have hsl : s.toList = L s := Lib.toList_data s
 have HSL := Lib.hid hsl
 generalize nameL (L s) = q at *
 generalize rightT d (L s) = R at *
 clear hsl
 go_enter Tryz.func101, Tryz.ntmps101
 go_wp2_with fail
 refine N.out.mono ?_
 rintro e w1 ⟨rfl, hb⟩
 have B1 := Lib.hid (((Below.refl w.heap.size w).alloc (Nat.le_refl _) (.cells #[.int .i64 d, .string s] 31)).trans (hb.mono (by simp)))
 have k := kcells_of ((hb.block w.heap.size (by simp)).trans (hheap_new w (.cells #[.int .i64 d, .string s] 31)))
 have k0 := k 0
 have k1 := k 1
 simp only [List.getElem?_toArray, List.getElem?_cons_succ, List.getElem?_cons_zero] at k0 k1
 clear hb k
 by_cases h1 : 0 ≤ d
 ·have e1 : decide (0 ≤ d) = true := decide_eq_true h1
  by_cases h2 : d ≤ 4
  ·have e2 : decide (d ≤ 4) = true := decide_eq_true h2
   by_cases h3 : s.toList = []
   ·have e3 : (s.toList == []) = true := by simpa using h3
    have e5 : s.toList.isEmpty = true := by simpa using h3
    have e6 : (!s.toList.isEmpty) = false := by simpa using h3
    have H3 := Lib.hid h3
    clear h3
    go_wp2
    go_ret
    exact ⟨ret_b (by rw [HE.out, e1, e2, ← HSL.out, H3.out]; rfl), B1.out⟩
   ·have e3 : (s.toList == []) = false := by simpa using h3
    have e5 : s.toList.isEmpty = false := by simpa using h3
    have e6 : (!s.toList.isEmpty) = true := by simpa using h3
    have H3 := Lib.hid h3
    clear h3
    go_wp2
    go_ret
    exact ⟨ret_b (by rw [HE.out, e1, e2, ← HSL.out, decide_eq_false H3.out]; rfl), B1.out⟩
  ·have e2 : decide (d ≤ 4) = false := decide_eq_false h2
   go_wp2
   go_ret
   exact ⟨ret_b (by rw [HE.out, e1, e2]; rfl), B1.out⟩
 ·have e1 : decide (0 ≤ d) = false := decide_eq_false h1
  go_wp2
  go_ret
  exact ⟨ret_b (by rw [HE.out, e1]; rfl), B1.out⟩
set_option maxRecDepth 1000000 in
set_option maxHeartbeats 3200000 in
theorem RIsRef_any (d : Int) (s : ByteArray) (w : World) (hs : s.size ≤ 1000000) :
  Calls Tryz.prog 71 #[.agg #[.int .i64 d, .string s]] w fun e w' => e = .returned (.bool (refT d (L s))) ∧ Below w.heap.size w w' := by
 have N := Lib.hid (RRight_any d s (w.alloc (.cells #[.int .i64 d, .string s] 31)) hs)
 have HE := Lib.hid (show refT d (L s) = (rightT d (L s) && (decide (0 < d) || decide (L s ≠ []))) from rfl)
 have HSL := Lib.hid (show s.toList = L s from Lib.toList_data s)
 generalize rightT d (L s) = q at *
 generalize refT d (L s) = R at *
 go_enter Tryz.func71, Tryz.ntmps71
 go_wp2_with fail
 refine N.out.mono ?_
 rintro e w1 ⟨rfl, hb⟩
 have B1 := Lib.hid (((Below.refl w.heap.size w).alloc (Nat.le_refl _) (.cells #[.int .i64 d, .string s] 31)).trans (hb.mono (by simp)))
 have k := kcells_of ((hb.block w.heap.size (by simp)).trans (hheap_new w (.cells #[.int .i64 d, .string s] 31)))
 have k0 := k 0
 have k1 := k 1
 simp only [List.getElem?_toArray, List.getElem?_cons_succ, List.getElem?_cons_zero] at k0 k1
 clear hb k
 cases q with
 | false =>
  go_wp2
  go_ret
  exact ⟨ret_b (by rw [HE.out]; rfl), B1.out⟩
 | true =>
  by_cases h1 : 0 < d
  ·have e1 : decide (0 < d) = true := decide_eq_true h1
   go_wp2
   go_ret
   exact ⟨ret_b (by rw [HE.out, e1]; rfl), B1.out⟩
  ·have e1 : decide (0 < d) = false := decide_eq_false h1
   by_cases h3 : s.toList = []
   ·have e3 : (s.toList == []) = true := by simpa using h3
    have e5 : s.toList.isEmpty = true := by simpa using h3
    have e6 : (!s.toList.isEmpty) = false := by simpa using h3
    have e4 : (s.toList != []) = false := by simpa using h3
    have H3 := Lib.hid h3
    clear h3
    go_wp2
    go_ret
    exact ⟨ret_b (by rw [HE.out, e1, ← HSL.out, H3.out]; rfl), B1.out⟩
   ·have e3 : (s.toList == []) = false := by simpa using h3
    have e5 : s.toList.isEmpty = false := by simpa using h3
    have e6 : (!s.toList.isEmpty) = true := by simpa using h3
    have e4 : (s.toList != []) = true := by simpa using h3
    have H3 := Lib.hid h3
    clear h3
    go_wp2
    go_ret
    exact ⟨ret_b (by rw [HE.out, e1, ← HSL.out, decide_eq_true H3.out]; rfl), B1.out⟩
section
variable {B p ow cap : Nat} {A : Option Addr} {cs : List PC} {w : World}
theorem has_right (hN : NamesOk cs) {d : Int} {s : ByteArray} : hasT cs (d, s.data.toList) ↔ rightT d (L s) = true ∧ (L s = [] ∨ (ix cs s.data.toList).isSome = true) := by
 have e : L s = s.data.toList := rfl
 unfold hasT rightT
 rw [e]
 simp only [Bool.and_eq_true, Bool.or_eq_true, decide_eq_true_eq, Option.isSome_iff_ne_none]
 constructor
 ·rintro ⟨h1, h2, h3⟩
  refine ⟨⟨h1, h2, ?_⟩, h3⟩
  rcases h3 with h3 | h3
  ·exact .inl h3
  ·right
   cases hx : ix cs s.data.toList with
   | none => exact absurd hx h3
   | some i =>
    obtain ⟨c, hc, e⟩ := ix_some hx
    rw [← e]
    exact hN c (List.mem_of_getElem? hc)
 ·rintro ⟨⟨h1, h2, _⟩, h3⟩
  exact ⟨h1, h2, h3⟩
theorem refT_has {d : Int} {s : ByteArray} (h : hasT cs (d, s.data.toList)) (hN : NamesOk cs) : refT d (L s) = decide ((d, s.data.toList) ≠ intT) := by
 have e : L s = s.data.toList := rfl
 have h2 := ((has_right hN).1 h).1
 unfold refT
 rw [h2, e, Bool.true_and]
 have h0 : (0 : Int) ≤ d := h.1
 rw [Bool.eq_iff_iff]
 simp only [Bool.or_eq_true, decide_eq_true_eq, intT, ne_eq, Prod.mk.injEq]
 constructor
 ·rintro (h | h) ⟨h1, h2⟩
  ·omega
  ·exact h h2
 ·intro h
  by_cases hd : 0 < d
  ·exact .inl hd
  ·exact .inr fun hs => h ⟨by omega, hs⟩
set_option maxRecDepth 1000000 in
set_option maxHeartbeats 3200000 in
theorem RKnown_any (h : RT B p A cap cs ow w) (hN : NamesOk cs) (d : Int) (s : ByteArray) (hs : s.size ≤ 1000000) (b : Bool) (hb : b = true ↔ hasT cs (d, s.data.toList)) :
  Calls Tryz.prog 70 #[.pointer (some ⟨p, 0, none⟩), .agg #[.int .i64 d, .string s]] w fun e w' => e = .returned (.bool b) ∧ Below w.heap.size w w' := by
 have N := Lib.hid (RRight_any d s (w.alloc (.cells #[.int .i64 d, .string s] 31)) hs)
 have HS := Lib.hid (fun W (hb : Below w.heap.size w W) => Rhas_any (h.link hb) s hs)
 have HE := Lib.hid (show b = (rightT d (L s) && (decide (L s = []) || (ix cs s.data.toList).isSome)) by
  rw [Bool.eq_iff_iff, hb, has_right hN]
  simp)
 have HSL := Lib.hid (show s.toList = L s from Lib.toList_data s)
 generalize rightT d (L s) = q at *
 generalize (ix cs s.data.toList).isSome = x at *
 clear h hN hb
 go_enter Tryz.func70, Tryz.ntmps70
 go_wp2_with fail
 refine N.out.mono ?_
 rintro e w1 ⟨rfl, hb⟩
 have B1 := Lib.hid (((Below.refl w.heap.size w).alloc (Nat.le_refl _) (.cells #[.int .i64 d, .string s] 31)).trans (hb.mono (by simp)))
 have HK := Lib.hid ((hb.block w.heap.size (by simp)).trans (hheap_new w (.cells #[.int .i64 d, .string s] 31)))
 have k1 : w1.cell? ⟨w.heap.size, 1, none⟩ = some (.string s) := kcells_of HK.out 1
 clear hb
 go_wp2_with fail
 refine (HS.out _ B1.out).mono ?_
 rintro e w2 ⟨rfl, hb⟩
 have B2 := Lib.hid (B1.out.trans (hb.mono B1.out.size))
 have k2 : w2.cell? ⟨w.heap.size, 1, none⟩ = some (.string s) := kcells_of ((hb.block _ (lt_of_block HK.out)).trans HK.out) 1
 clear hb k1
 cases q with
 | false =>
  go_wp2
  go_ret
  exact ⟨ret_b (by rw [HE.out]; rfl), B2.out⟩
 | true =>
  by_cases h3 : s.toList = []
  ·have e3 : (s.toList == []) = true := by simpa using h3
   have e5 : s.toList.isEmpty = true := by simpa using h3
   have e6 : (!s.toList.isEmpty) = false := by simpa using h3
   have H3 := Lib.hid h3
   clear h3
   go_wp2
   go_ret
   exact ⟨ret_b (by rw [HE.out, ← HSL.out, H3.out]; rfl), B2.out⟩
  ·have e3 : (s.toList == []) = false := by simpa using h3
   have e5 : s.toList.isEmpty = false := by simpa using h3
   have e6 : (!s.toList.isEmpty) = true := by simpa using h3
   have H3 := Lib.hid h3
   clear h3
   go_wp2
   go_ret
   exact ⟨ret_b (by rw [HE.out, ← HSL.out, decide_eq_false H3.out]; rfl), B2.out⟩
end
end Go.Proofs.YtmaknddlgppinaaGreatDoor
