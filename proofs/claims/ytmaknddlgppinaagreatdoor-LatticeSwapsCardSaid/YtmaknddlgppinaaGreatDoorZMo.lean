/-
  WALK of LatticeSwaps.
-/
import Derived.Test.YtmaknddlgppinaaGreatDoorZMn
import Derived.Test.YtmaknddlgppinaaGreatDoorZ42
set_option linter.unusedVariables false
set_option linter.unusedSimpArgs false
namespace Go.Proofs.YtmaknddlgppinaaGreatDoor
open Go.RowKit

set_option maxRecDepth 1000000 in
set_option maxHeartbeats 100000000 in
theorem swaps_any {w : World} (hN : Blt w) {B0 : Nat} (hgt loc : Int) (l2 l3 l4 : List Int) (v2 v3 v4 : Value) (hh0 : B64 hgt) (hl0 : B64 loc) (hi2 : IRow B0 w v2 l2) (hi3 : IRow B0 w v3 l3) (hi4 : IRow B0 w v4 l4) (hl2 : ∀ z ∈ l2, B64 z) (hl3 : ∀ z ∈ l3, B64 z) (hl4 : ∀ z ∈ l4, B64 z) (hB : B0 ≤ w.heap.size) :
    Calls Tryz.prog 13 #[.int .i64 hgt, .int .i64 loc, v2, v3, v4] w fun e w' => e = .returned (.bool true) ∧ Below w.heap.size w w' := by
  have HN := Lib.hid hN
  have L2 := Lib.hid hl2
  have I2 := Lib.hid hi2
  have L3 := Lib.hid hl3
  have I3 := Lib.hid hi3
  have L4 := Lib.hid hl4
  have I4 := Lib.hid hi4
  have Q1 := Lib.hid hh0
  have Q2 := Lib.hid hl0
  clear hN hi2 hi3 hi4 hl2 hl3 hl4 hh0 hl0
  go_enter Tryz.func13, Tryz.ntmps13
  go_wp2_with fail
  refine (shown7_any HN.out).mono ?_
  rintro e w1 ⟨rfl, b1⟩
  have B1 := Lib.hid b1
  clear b1
  go_wp2_with fail
  refine (tables7_any (HN.out.below B1.out)).mono ?_
  rintro e U ⟨Bt, nb, mb, A, cap, cl, sl, S, pu, rfl, ht, b2⟩
  have BU := Lib.hid (Below.hlink B1.out b2)
  have HT := Lib.hid ht
  have X := Lib.hid (Below.refl U.heap.size U)
  have H2 := Lib.hid ((I2.out.keep (fun p hp => BU.out.cell (Nat.lt_of_lt_of_le hp hB))).more (Nat.le_trans hB BU.out.size))
  have H3 := Lib.hid ((I3.out.keep (fun p hp => BU.out.cell (Nat.lt_of_lt_of_le hp hB))).more (Nat.le_trans hB BU.out.size))
  have H4 := Lib.hid ((I4.out.keep (fun p hp => BU.out.cell (Nat.lt_of_lt_of_le hp hB))).more (Nat.le_trans hB BU.out.size))
  clear ht b2 B1 HN I2 I3 I4
  go_wp2_with fail
  refine (pick7_any hgt 4 _ Q1.out (by decide) (by decide)).mono ?_
  rintro e w2 ⟨rfl, hw2⟩
  rw [hw2]
  clear hw2 w2
  obtain ⟨h, hh⟩ : ∃ h, h = pick7 hgt 4 := ⟨_, rfl⟩
  have hh4 : h < 4 := by rw [hh]; exact pick7_lt hgt (by decide)
  rw [← hh]
  clear hh
  go_wp2_with fail
  refine (pick7_any loc 4 _ Q2.out (by decide) (by decide)).mono ?_
  rintro e w3 ⟨rfl, hw3⟩
  rw [hw3]
  clear hw3 w3
  obtain ⟨lo, hlo0⟩ : ∃ h, h = pick7 loc 4 := ⟨_, rfl⟩
  have hlo4 : lo < 4 := by rw [hlo0]; exact pick7_lt loc (by decide)
  rw [← hlo0]
  clear hlo0
  have hh : h ≤ 1000 := by omega
  have hlo : lo ≤ 1000 := by omega
  go_upto_region 9 with fail
  go_cut [14] (fun va wx => ∃ y A1 c1 A2 c2 la sa, va = .pointer (some ⟨y, 0, none⟩) ∧ (OkL la ∧ OkL sa ∧ la.length = lo ∧ sa.length = h) ∧ wx.heap[y]? = some (.cells #[.slice A1 la.length c1, .slice A2 sa.length c2] 75 (0, 0)) ∧ SV wx (.slice A1 la.length c1) (.slice A2 sa.length c2) la sa ∧ Below U.heap.size U wx)
  case first => as_aux_lemma =>
    go_wp2_with fail
    refine (made_any (B := U.heap.size) h lo l2 _ _ (H2.out.keep (fun p hp => X.out.cell hp)) X.out.size L2.out hh hlo).mono ?_
    rintro e w9 ⟨x, y, la, sa, rfl, sv, e1, e2, i1, i2, hb⟩
    obtain ⟨A1, c1, rfl, _, _⟩ := sv.loc.form
    obtain ⟨A2, c2, rfl, _, _⟩ := sv.stk.form
    have SS := Lib.hid sv
    have FF := Lib.hid (show OkL la ∧ OkL sa ∧ la.length = lo ∧ sa.length = h from ⟨okl17 i1, okl17 i2, e2, e1⟩)
    have HB := Lib.hid hb
    clear sv e1 e2 i1 i2 hb
    go_wp2
    go_meet
    case rel => exact ⟨_, A1, c1, A2, c2, la, sa, rfl, FF.out, hheap_new _ _, SS.out.next ((Below.refl _ _).alloc (Nat.le_refl _) _), HB.out.alloc HB.out.size _⟩
  obtain ⟨y1, A1, c1, D1, e1, la1, sa1, rfl, hf, hy, hs, hb⟩ := hcut
  obtain ⟨V1, hV⟩ : ∃ x, x = wc := ⟨_, rfl⟩
  subst hV
  replace X := Lib.hid (X.out.trans (hb.mono X.out.size))
  have Y1 := Lib.hid hy
  have S1 := Lib.hid hs
  clear hb hy hs
  have OL1 := Lib.hid hf.1
  have OS1 := Lib.hid hf.2.1
  have NL1 := Lib.hid hf.2.2.1
  have NS1 := Lib.hid hf.2.2.2
  clear hf
  go_upto_region 10 with fail
  go_cut [15] (fun va wx => ∃ y A1 c1 A2 c2 la sa, va = .pointer (some ⟨y, 0, none⟩) ∧ (OkL la ∧ OkL sa ∧ la.length = lo ∧ sa.length = h) ∧ wx.heap[y]? = some (.cells #[.slice A1 la.length c1, .slice A2 sa.length c2] 75 (0, 0)) ∧ SV wx (.slice A1 la.length c1) (.slice A2 sa.length c2) la sa ∧ Below V1.heap.size V1 wx)
  case first => as_aux_lemma =>
    go_wp2_with fail
    refine (made_any (B := U.heap.size) h lo l3 _ _ (H3.out.keep (fun p hp => X.out.cell hp)) X.out.size L3.out hh hlo).mono ?_
    rintro e w9 ⟨x, y, la, sa, rfl, sv, e1, e2, i1, i2, hb⟩
    obtain ⟨A1, c1, rfl, _, _⟩ := sv.loc.form
    obtain ⟨A2, c2, rfl, _, _⟩ := sv.stk.form
    have SS := Lib.hid sv
    have FF := Lib.hid (show OkL la ∧ OkL sa ∧ la.length = lo ∧ sa.length = h from ⟨okl17 i1, okl17 i2, e2, e1⟩)
    have HB := Lib.hid hb
    clear sv e1 e2 i1 i2 hb
    go_wp2
    go_meet
    case rel => exact ⟨_, A1, c1, A2, c2, la, sa, rfl, FF.out, hheap_new _ _, SS.out.next ((Below.refl _ _).alloc (Nat.le_refl _) _), HB.out.alloc HB.out.size _⟩
  obtain ⟨y2, A2, c2, D2, e2, la2, sa2, rfl, hf, hy, hs, hb⟩ := hcut
  obtain ⟨V2, hV⟩ : ∃ x, x = wc := ⟨_, rfl⟩
  subst hV
  replace X := Lib.hid (X.out.trans (hb.mono X.out.size))
  replace Y1 := Lib.hid ((hb.block _ (lt_of_block Y1.out)).trans Y1.out)
  replace S1 := Lib.hid (S1.out.next hb)
  have Y2 := Lib.hid hy
  have S2 := Lib.hid hs
  clear hb hy hs
  have OL2 := Lib.hid hf.1
  have OS2 := Lib.hid hf.2.1
  have NL2 := Lib.hid hf.2.2.1
  have NS2 := Lib.hid hf.2.2.2
  clear hf
  go_upto_region 11 with fail
  go_cut [16] (fun va wx => ∃ y A1 c1 A2 c2 la sa, va = .pointer (some ⟨y, 0, none⟩) ∧ (OkL la ∧ OkL sa ∧ la.length = lo ∧ sa.length = h) ∧ wx.heap[y]? = some (.cells #[.slice A1 la.length c1, .slice A2 sa.length c2] 75 (0, 0)) ∧ SV wx (.slice A1 la.length c1) (.slice A2 sa.length c2) la sa ∧ Below V2.heap.size V2 wx)
  case first => as_aux_lemma =>
    go_wp2_with fail
    refine (made_any (B := U.heap.size) h lo l4 _ _ (H4.out.keep (fun p hp => X.out.cell hp)) X.out.size L4.out hh hlo).mono ?_
    rintro e w9 ⟨x, y, la, sa, rfl, sv, e1, e2, i1, i2, hb⟩
    obtain ⟨A1, c1, rfl, _, _⟩ := sv.loc.form
    obtain ⟨A2, c2, rfl, _, _⟩ := sv.stk.form
    have SS := Lib.hid sv
    have FF := Lib.hid (show OkL la ∧ OkL sa ∧ la.length = lo ∧ sa.length = h from ⟨okl17 i1, okl17 i2, e2, e1⟩)
    have HB := Lib.hid hb
    clear sv e1 e2 i1 i2 hb
    go_wp2
    go_meet
    case rel => exact ⟨_, A1, c1, A2, c2, la, sa, rfl, FF.out, hheap_new _ _, SS.out.next ((Below.refl _ _).alloc (Nat.le_refl _) _), HB.out.alloc HB.out.size _⟩
  obtain ⟨y3, A3, c3, D3, e3, la3, sa3, rfl, hf, hy, hs, hb⟩ := hcut
  obtain ⟨V3, hV⟩ : ∃ x, x = wc := ⟨_, rfl⟩
  subst hV
  replace X := Lib.hid (X.out.trans (hb.mono X.out.size))
  replace Y1 := Lib.hid ((hb.block _ (lt_of_block Y1.out)).trans Y1.out)
  replace S1 := Lib.hid (S1.out.next hb)
  replace Y2 := Lib.hid ((hb.block _ (lt_of_block Y2.out)).trans Y2.out)
  replace S2 := Lib.hid (S2.out.next hb)
  have Y3 := Lib.hid hy
  have S3 := Lib.hid hs
  clear hb hy hs
  have OL3 := Lib.hid hf.1
  have OS3 := Lib.hid hf.2.1
  have NL3 := Lib.hid hf.2.2.1
  have NS3 := Lib.hid hf.2.2.2
  clear hf
  go_upto_region 12 with fail
  go_cut [17, 18] (fun va vb wx => vb = .int .i64 0 ∧ ∃ y A1 c1 A2 c2 la sa, va = .pointer (some ⟨y, 0, none⟩) ∧ (JoinL cs7 la1 la2 la ∧ JoinL cs7 sa1 sa2 sa) ∧ wx.heap[y]? = some (.cells #[.slice A1 la.length c1, .slice A2 sa.length c2] 75 (0, 0)) ∧ SV wx (.slice A1 la.length c1) (.slice A2 sa.length c2) la sa ∧ Below V3.heap.size V3 wx)
  case first => as_aux_lemma =>
    have m10 := kcells_of Y1.out 0
    have m11 := kcells_of Y1.out 1
    simp only [List.getElem?_toArray, List.getElem?_cons_succ, List.getElem?_cons_zero] at m10 m11
    have hy1 := lt_of_block Y1.out
    have m20 := kcells_of Y2.out 0
    have m21 := kcells_of Y2.out 1
    simp only [List.getElem?_toArray, List.getElem?_cons_succ, List.getElem?_cons_zero] at m20 m21
    have hy2 := lt_of_block Y2.out
    go_wp2_with fail
    refine (JoinStates_any (B := V3.heap.size) la1 sa1 la2 sa2 _ _ _ _ _ (HT.out.below (X.out.mono HT.out.hB)) S1.out.loc S1.out.stk S2.out.loc S2.out.stk (Nat.le_refl _) OL1.out.small OS1.out.small OL2.out.small OS2.out.small (by have := NL1.out; omega) (by have := NS1.out; omega) (by have := NS1.out; have := NS2.out; omega)).mono ?_
    rintro e w9 ⟨p1, l1, p2, l2, rfl, hp1, hp12, k1, k2, j1, j2, hb⟩
    have HB := Lib.hid hb
    have JJ := Lib.hid (And.intro j1 j2)
    have SS := Lib.hid (show SV w9 (.slice (some ⟨p1, 0, none⟩) l1.length l1.length) (.slice (some ⟨p2, 0, none⟩) l2.length l2.length) l1 l2 from ⟨k1.row (by have := j1.1; have := NL1.out; unfold maxLen; omega) (lt_of_block k1), k2.row (by have := j2.1; have := NS1.out; unfold maxLen; omega) (lt_of_block k2)⟩)
    clear hb j1 j2 k1 k2 hp1 hp12
    clear m10 m11 hy1
    clear m20 m21 hy2
    go_wp2
    go_meet
    case rel => exact ⟨rfl, _, _, _, _, _, l1, l2, rfl, JJ.out, hheap_new _ _, SS.out.next ((Below.refl _ _).alloc (Nat.le_refl _) _), HB.out.alloc HB.out.size _⟩
  obtain ⟨rfl, hcut⟩ := hcut
  obtain ⟨y4, A4, c4, D4, e4, la4, sa4, rfl, hj, hy, hs, hb⟩ := hcut
  obtain ⟨V4, hV⟩ : ∃ x, x = wc := ⟨_, rfl⟩
  subst hV
  replace X := Lib.hid (X.out.trans (hb.mono X.out.size))
  replace Y1 := Lib.hid ((hb.block _ (lt_of_block Y1.out)).trans Y1.out)
  replace S1 := Lib.hid (S1.out.next hb)
  replace Y2 := Lib.hid ((hb.block _ (lt_of_block Y2.out)).trans Y2.out)
  replace S2 := Lib.hid (S2.out.next hb)
  replace Y3 := Lib.hid ((hb.block _ (lt_of_block Y3.out)).trans Y3.out)
  replace S3 := Lib.hid (S3.out.next hb)
  have Y4 := Lib.hid hy
  have S4 := Lib.hid hs
  clear hb hy hs
  have JL4 := Lib.hid hj.1
  have JS4 := Lib.hid hj.2
  have OL4 := Lib.hid (JL4.out.ok OL1.out OL2.out)
  have OS4 := Lib.hid (JS4.out.ok OS1.out OS2.out)
  have NL4 : Hid (la4.length = lo) := Lib.hid (by have := hj.1.1; have := NL1.out; have := NL2.out; omega)
  have NS4 : Hid (sa4.length = h) := Lib.hid (by have := hj.2.1; have := NS1.out; have := NS2.out; omega)
  clear hj
  go_upto_region 13 with fail
  go_cut [19, 20] (fun va vb wx => vb = .int .i64 0 ∧ ∃ y A1 c1 A2 c2 la sa, va = .pointer (some ⟨y, 0, none⟩) ∧ (JoinL cs7 la2 la1 la ∧ JoinL cs7 sa2 sa1 sa) ∧ wx.heap[y]? = some (.cells #[.slice A1 la.length c1, .slice A2 sa.length c2] 75 (0, 0)) ∧ SV wx (.slice A1 la.length c1) (.slice A2 sa.length c2) la sa ∧ Below V4.heap.size V4 wx)
  case first => as_aux_lemma =>
    have m20 := kcells_of Y2.out 0
    have m21 := kcells_of Y2.out 1
    simp only [List.getElem?_toArray, List.getElem?_cons_succ, List.getElem?_cons_zero] at m20 m21
    have hy2 := lt_of_block Y2.out
    have m10 := kcells_of Y1.out 0
    have m11 := kcells_of Y1.out 1
    simp only [List.getElem?_toArray, List.getElem?_cons_succ, List.getElem?_cons_zero] at m10 m11
    have hy1 := lt_of_block Y1.out
    go_wp2_with fail
    refine (JoinStates_any (B := V4.heap.size) la2 sa2 la1 sa1 _ _ _ _ _ (HT.out.below (X.out.mono HT.out.hB)) S2.out.loc S2.out.stk S1.out.loc S1.out.stk (Nat.le_refl _) OL2.out.small OS2.out.small OL1.out.small OS1.out.small (by have := NL2.out; omega) (by have := NS2.out; omega) (by have := NS2.out; have := NS1.out; omega)).mono ?_
    rintro e w9 ⟨p1, l1, p2, l2, rfl, hp1, hp12, k1, k2, j1, j2, hb⟩
    have HB := Lib.hid hb
    have JJ := Lib.hid (And.intro j1 j2)
    have SS := Lib.hid (show SV w9 (.slice (some ⟨p1, 0, none⟩) l1.length l1.length) (.slice (some ⟨p2, 0, none⟩) l2.length l2.length) l1 l2 from ⟨k1.row (by have := j1.1; have := NL2.out; unfold maxLen; omega) (lt_of_block k1), k2.row (by have := j2.1; have := NS2.out; unfold maxLen; omega) (lt_of_block k2)⟩)
    clear hb j1 j2 k1 k2 hp1 hp12
    clear m20 m21 hy2
    clear m10 m11 hy1
    go_wp2
    go_meet
    case rel => exact ⟨rfl, _, _, _, _, _, l1, l2, rfl, JJ.out, hheap_new _ _, SS.out.next ((Below.refl _ _).alloc (Nat.le_refl _) _), HB.out.alloc HB.out.size _⟩
  obtain ⟨rfl, hcut⟩ := hcut
  obtain ⟨y5, A5, c5, D5, e5, la5, sa5, rfl, hj, hy, hs, hb⟩ := hcut
  obtain ⟨V5, hV⟩ : ∃ x, x = wc := ⟨_, rfl⟩
  subst hV
  replace X := Lib.hid (X.out.trans (hb.mono X.out.size))
  replace Y1 := Lib.hid ((hb.block _ (lt_of_block Y1.out)).trans Y1.out)
  replace S1 := Lib.hid (S1.out.next hb)
  replace Y2 := Lib.hid ((hb.block _ (lt_of_block Y2.out)).trans Y2.out)
  replace S2 := Lib.hid (S2.out.next hb)
  replace Y3 := Lib.hid ((hb.block _ (lt_of_block Y3.out)).trans Y3.out)
  replace S3 := Lib.hid (S3.out.next hb)
  replace Y4 := Lib.hid ((hb.block _ (lt_of_block Y4.out)).trans Y4.out)
  replace S4 := Lib.hid (S4.out.next hb)
  have Y5 := Lib.hid hy
  have S5 := Lib.hid hs
  clear hb hy hs
  have JL5 := Lib.hid hj.1
  have JS5 := Lib.hid hj.2
  have OL5 := Lib.hid (JL5.out.ok OL2.out OL1.out)
  have OS5 := Lib.hid (JS5.out.ok OS2.out OS1.out)
  have NL5 : Hid (la5.length = lo) := Lib.hid (by have := hj.1.1; have := NL2.out; have := NL1.out; omega)
  have NS5 : Hid (sa5.length = h) := Lib.hid (by have := hj.2.1; have := NS2.out; have := NS1.out; omega)
  clear hj
  go_upto_region 14 with fail
  go_cut [21, 22] (fun va vb wx => vb = .int .i64 0 ∧ ∃ y A1 c1 A2 c2 la sa, va = .pointer (some ⟨y, 0, none⟩) ∧ (JoinL cs7 la1 la1 la ∧ JoinL cs7 sa1 sa1 sa) ∧ wx.heap[y]? = some (.cells #[.slice A1 la.length c1, .slice A2 sa.length c2] 75 (0, 0)) ∧ SV wx (.slice A1 la.length c1) (.slice A2 sa.length c2) la sa ∧ Below V5.heap.size V5 wx)
  case first => as_aux_lemma =>
    have m10 := kcells_of Y1.out 0
    have m11 := kcells_of Y1.out 1
    simp only [List.getElem?_toArray, List.getElem?_cons_succ, List.getElem?_cons_zero] at m10 m11
    have hy1 := lt_of_block Y1.out
    go_wp2_with fail
    refine (JoinStates_any (B := V5.heap.size) la1 sa1 la1 sa1 _ _ _ _ _ (HT.out.below (X.out.mono HT.out.hB)) S1.out.loc S1.out.stk S1.out.loc S1.out.stk (Nat.le_refl _) OL1.out.small OS1.out.small OL1.out.small OS1.out.small (by have := NL1.out; omega) (by have := NS1.out; omega) (by have := NS1.out; have := NS1.out; omega)).mono ?_
    rintro e w9 ⟨p1, l1, p2, l2, rfl, hp1, hp12, k1, k2, j1, j2, hb⟩
    have HB := Lib.hid hb
    have JJ := Lib.hid (And.intro j1 j2)
    have SS := Lib.hid (show SV w9 (.slice (some ⟨p1, 0, none⟩) l1.length l1.length) (.slice (some ⟨p2, 0, none⟩) l2.length l2.length) l1 l2 from ⟨k1.row (by have := j1.1; have := NL1.out; unfold maxLen; omega) (lt_of_block k1), k2.row (by have := j2.1; have := NS1.out; unfold maxLen; omega) (lt_of_block k2)⟩)
    clear hb j1 j2 k1 k2 hp1 hp12
    clear m10 m11 hy1
    go_wp2
    go_meet
    case rel => exact ⟨rfl, _, _, _, _, _, l1, l2, rfl, JJ.out, hheap_new _ _, SS.out.next ((Below.refl _ _).alloc (Nat.le_refl _) _), HB.out.alloc HB.out.size _⟩
  obtain ⟨rfl, hcut⟩ := hcut
  obtain ⟨y6, A6, c6, D6, e6, la6, sa6, rfl, hj, hy, hs, hb⟩ := hcut
  obtain ⟨V6, hV⟩ : ∃ x, x = wc := ⟨_, rfl⟩
  subst hV
  replace X := Lib.hid (X.out.trans (hb.mono X.out.size))
  replace Y1 := Lib.hid ((hb.block _ (lt_of_block Y1.out)).trans Y1.out)
  replace S1 := Lib.hid (S1.out.next hb)
  replace Y2 := Lib.hid ((hb.block _ (lt_of_block Y2.out)).trans Y2.out)
  replace S2 := Lib.hid (S2.out.next hb)
  replace Y3 := Lib.hid ((hb.block _ (lt_of_block Y3.out)).trans Y3.out)
  replace S3 := Lib.hid (S3.out.next hb)
  replace Y4 := Lib.hid ((hb.block _ (lt_of_block Y4.out)).trans Y4.out)
  replace S4 := Lib.hid (S4.out.next hb)
  replace Y5 := Lib.hid ((hb.block _ (lt_of_block Y5.out)).trans Y5.out)
  replace S5 := Lib.hid (S5.out.next hb)
  have Y6 := Lib.hid hy
  have S6 := Lib.hid hs
  clear hb hy hs
  have JL6 := Lib.hid hj.1
  have JS6 := Lib.hid hj.2
  have OL6 := Lib.hid (JL6.out.ok OL1.out OL1.out)
  have OS6 := Lib.hid (JS6.out.ok OS1.out OS1.out)
  have NL6 : Hid (la6.length = lo) := Lib.hid (by have := hj.1.1; have := NL1.out; have := NL1.out; omega)
  have NS6 : Hid (sa6.length = h) := Lib.hid (by have := hj.2.1; have := NS1.out; have := NS1.out; omega)
  clear hj
  go_upto_region 15 with fail
  go_cut [100] (fun va wx => va = .bool false ∧ Below V6.heap.size V6 wx)
  case first => as_aux_lemma =>
    have m40 := kcells_of Y4.out 0
    have m41 := kcells_of Y4.out 1
    simp only [List.getElem?_toArray, List.getElem?_cons_succ, List.getElem?_cons_zero] at m40 m41
    have hy4 := lt_of_block Y4.out
    have m50 := kcells_of Y5.out 0
    have m51 := kcells_of Y5.out 1
    simp only [List.getElem?_toArray, List.getElem?_cons_succ, List.getElem?_cons_zero] at m50 m51
    have hy5 := lt_of_block Y5.out
    go_wp2_with fail
    refine (Same_any (B := V6.heap.size) la4 sa4 la5 sa5 _ _ _ _ _ (S4.out.loc.below (Below.refl V6.heap.size V6)) (S4.out.stk.below (Below.refl V6.heap.size V6)) (S5.out.loc.below (Below.refl V6.heap.size V6)) (S5.out.stk.below (Below.refl V6.heap.size V6)) (Below.size (Below.refl V6.heap.size V6))).mono ?_
    rintro e x1 ⟨rfl, hb⟩
    rw [decide_eq_true (JL4.out.comm JL5.out OL1.out OL2.out), decide_eq_true (JS4.out.comm JS5.out OS1.out OS2.out)]
    have TT1 := Lib.hid (Below.hlink (Below.refl V6.heap.size V6) hb)
    clear hb
    clear m40 m41 hy4
    clear m50 m51 hy5
    have q6 := ((TT1.out).block _ (lt_of_block Y6.out)).trans Y6.out
    have m60 := kcells_of q6 0
    have m61 := kcells_of q6 1
    simp only [List.getElem?_toArray, List.getElem?_cons_succ, List.getElem?_cons_zero] at m60 m61
    have hy6 := lt_of_block q6
    clear q6
    have q1 := ((TT1.out).block _ (lt_of_block Y1.out)).trans Y1.out
    have m10 := kcells_of q1 0
    have m11 := kcells_of q1 1
    simp only [List.getElem?_toArray, List.getElem?_cons_succ, List.getElem?_cons_zero] at m10 m11
    have hy1 := lt_of_block q1
    clear q1
    go_wp2_with fail
    refine (Same_any (B := V6.heap.size) la6 sa6 la1 sa1 _ _ _ _ _ (S6.out.loc.below TT1.out) (S6.out.stk.below TT1.out) (S1.out.loc.below TT1.out) (S1.out.stk.below TT1.out) (Below.size TT1.out)).mono ?_
    rintro e x2 ⟨rfl, hb⟩
    rw [decide_eq_true (JL6.out.self OL1.out), decide_eq_true (JS6.out.self OS1.out)]
    have TT2 := Lib.hid (Below.hlink TT1.out hb)
    clear hb
    go_wp2
    go_meet
    case rel => exact ⟨rfl, TT2.out⟩
  obtain ⟨rfl, hb⟩ := hcut
  obtain ⟨V7, hV⟩ : ∃ x, x = wc := ⟨_, rfl⟩
  subst hV
  replace X := Lib.hid (X.out.trans (hb.mono X.out.size))
  replace Y1 := Lib.hid ((hb.block _ (lt_of_block Y1.out)).trans Y1.out)
  replace S1 := Lib.hid (S1.out.next hb)
  replace Y2 := Lib.hid ((hb.block _ (lt_of_block Y2.out)).trans Y2.out)
  replace S2 := Lib.hid (S2.out.next hb)
  replace Y3 := Lib.hid ((hb.block _ (lt_of_block Y3.out)).trans Y3.out)
  replace S3 := Lib.hid (S3.out.next hb)
  replace Y4 := Lib.hid ((hb.block _ (lt_of_block Y4.out)).trans Y4.out)
  replace S4 := Lib.hid (S4.out.next hb)
  replace Y5 := Lib.hid ((hb.block _ (lt_of_block Y5.out)).trans Y5.out)
  replace S5 := Lib.hid (S5.out.next hb)
  replace Y6 := Lib.hid ((hb.block _ (lt_of_block Y6.out)).trans Y6.out)
  replace S6 := Lib.hid (S6.out.next hb)
  clear hb
  go_upto_region 17 with fail
  go_cut [111] (fun va wx => va = .bool false ∧ Below V7.heap.size V7 wx)
  case first => as_aux_lemma =>
    have m30 := kcells_of Y3.out 0
    have m31 := kcells_of Y3.out 1
    simp only [List.getElem?_toArray, List.getElem?_cons_succ, List.getElem?_cons_zero] at m30 m31
    have hy3 := lt_of_block Y3.out
    have m10 := kcells_of Y1.out 0
    have m11 := kcells_of Y1.out 1
    simp only [List.getElem?_toArray, List.getElem?_cons_succ, List.getElem?_cons_zero] at m10 m11
    have hy1 := lt_of_block Y1.out
    go_wp2_with fail
    refine (BelowStates_any (B := V7.heap.size) la3 sa3 la1 sa1 _ _ _ _ _ (HT.out.below (X.out.mono HT.out.hB)) S3.out.loc S3.out.stk S1.out.loc S1.out.stk (Nat.le_refl _) OL3.out.small OS3.out.small OL1.out.small OS1.out.small).mono ?_
    rintro e x1 ⟨r, rfl, hr, hb⟩
    have TT1 := Lib.hid hb
    have HR := Lib.hid hr
    clear hr hb
    clear m30 m31 hy3
    clear m10 m11 hy1
    cases r with
    | false =>
      go_wp2
      go_meet
      case rel => exact ⟨rfl, TT1.out⟩
    | true =>
      have q3 := ((TT1.out).block _ (lt_of_block Y3.out)).trans Y3.out
      have m30 := kcells_of q3 0
      have m31 := kcells_of q3 1
      simp only [List.getElem?_toArray, List.getElem?_cons_succ, List.getElem?_cons_zero] at m30 m31
      have hy3 := lt_of_block q3
      clear q3
      have q4 := ((TT1.out).block _ (lt_of_block Y4.out)).trans Y4.out
      have m40 := kcells_of q4 0
      have m41 := kcells_of q4 1
      simp only [List.getElem?_toArray, List.getElem?_cons_succ, List.getElem?_cons_zero] at m40 m41
      have hy4 := lt_of_block q4
      clear q4
      have HR' := HR.out.1 (by first | rfl | trivial)
      have BB : sa3.length = sa4.length ∧ BelowL cs7 la3 la4 ∧ BelowL cs7 sa3 sa4 := ⟨by have := NS3.out; have := NS4.out; omega, HR'.2.1.join JL4.out (by have := NL1.out; have := NL2.out; omega) OL1.out OL2.out OL3.out, HR'.2.2.join JS4.out (by have := NS1.out; have := NS2.out; omega) OS1.out OS2.out OS3.out⟩
      have BB' := Lib.hid BB
      clear BB HR'
      go_wp2_with fail
      refine ((BelowStates_any (B := V7.heap.size) la3 sa3 la4 sa4 _ _ _ _ _ (HT.out.below ((X.out.trans (TT1.out.mono X.out.size)).mono HT.out.hB)) (S3.out.loc.below TT1.out) (S3.out.stk.below TT1.out) (S4.out.loc.below TT1.out) (S4.out.stk.below TT1.out) TT1.out.size OL3.out.small OS3.out.small OL4.out.small OS4.out.small).mono (fun e w' h => BAns.yes h BB'.out)).mono ?_
      rintro e x2 ⟨rfl, hb⟩
      have TT2 := Lib.hid (Below.hlink TT1.out hb)
      clear hb
      go_wp2
      go_meet
      case rel => exact ⟨rfl, TT2.out⟩
  obtain ⟨rfl, hb⟩ := hcut
  obtain ⟨V8, hV⟩ : ∃ x, x = wc := ⟨_, rfl⟩
  subst hV
  replace X := Lib.hid (X.out.trans (hb.mono X.out.size))
  replace Y1 := Lib.hid ((hb.block _ (lt_of_block Y1.out)).trans Y1.out)
  replace S1 := Lib.hid (S1.out.next hb)
  replace Y2 := Lib.hid ((hb.block _ (lt_of_block Y2.out)).trans Y2.out)
  replace S2 := Lib.hid (S2.out.next hb)
  replace Y3 := Lib.hid ((hb.block _ (lt_of_block Y3.out)).trans Y3.out)
  replace S3 := Lib.hid (S3.out.next hb)
  replace Y4 := Lib.hid ((hb.block _ (lt_of_block Y4.out)).trans Y4.out)
  replace S4 := Lib.hid (S4.out.next hb)
  replace Y5 := Lib.hid ((hb.block _ (lt_of_block Y5.out)).trans Y5.out)
  replace S5 := Lib.hid (S5.out.next hb)
  replace Y6 := Lib.hid ((hb.block _ (lt_of_block Y6.out)).trans Y6.out)
  replace S6 := Lib.hid (S6.out.next hb)
  clear hb
  go_upto_region 19 with fail
  go_cut [23, 24] (fun va vb wx => vb = .int .i64 0 ∧ ∃ y A1 c1 A2 c2 la sa, va = .pointer (some ⟨y, 0, none⟩) ∧ (JoinL cs7 la4 la3 la ∧ JoinL cs7 sa4 sa3 sa) ∧ wx.heap[y]? = some (.cells #[.slice A1 la.length c1, .slice A2 sa.length c2] 75 (0, 0)) ∧ SV wx (.slice A1 la.length c1) (.slice A2 sa.length c2) la sa ∧ Below V8.heap.size V8 wx)
  case first => as_aux_lemma =>
    have m40 := kcells_of Y4.out 0
    have m41 := kcells_of Y4.out 1
    simp only [List.getElem?_toArray, List.getElem?_cons_succ, List.getElem?_cons_zero] at m40 m41
    have hy4 := lt_of_block Y4.out
    have m30 := kcells_of Y3.out 0
    have m31 := kcells_of Y3.out 1
    simp only [List.getElem?_toArray, List.getElem?_cons_succ, List.getElem?_cons_zero] at m30 m31
    have hy3 := lt_of_block Y3.out
    go_wp2_with fail
    refine (JoinStates_any (B := V8.heap.size) la4 sa4 la3 sa3 _ _ _ _ _ (HT.out.below (X.out.mono HT.out.hB)) S4.out.loc S4.out.stk S3.out.loc S3.out.stk (Nat.le_refl _) OL4.out.small OS4.out.small OL3.out.small OS3.out.small (by have := NL4.out; omega) (by have := NS4.out; omega) (by have := NS4.out; have := NS3.out; omega)).mono ?_
    rintro e w9 ⟨p1, l1, p2, l2, rfl, hp1, hp12, k1, k2, j1, j2, hb⟩
    have HB := Lib.hid hb
    have JJ := Lib.hid (And.intro j1 j2)
    have SS := Lib.hid (show SV w9 (.slice (some ⟨p1, 0, none⟩) l1.length l1.length) (.slice (some ⟨p2, 0, none⟩) l2.length l2.length) l1 l2 from ⟨k1.row (by have := j1.1; have := NL4.out; unfold maxLen; omega) (lt_of_block k1), k2.row (by have := j2.1; have := NS4.out; unfold maxLen; omega) (lt_of_block k2)⟩)
    clear hb j1 j2 k1 k2 hp1 hp12
    clear m40 m41 hy4
    clear m30 m31 hy3
    go_wp2
    go_meet
    case rel => exact ⟨rfl, _, _, _, _, _, l1, l2, rfl, JJ.out, hheap_new _ _, SS.out.next ((Below.refl _ _).alloc (Nat.le_refl _) _), HB.out.alloc HB.out.size _⟩
  obtain ⟨rfl, hcut⟩ := hcut
  obtain ⟨y7, A7, c7, D7, e7, la7, sa7, rfl, hj, hy, hs, hb⟩ := hcut
  obtain ⟨V9, hV⟩ : ∃ x, x = wc := ⟨_, rfl⟩
  subst hV
  replace X := Lib.hid (X.out.trans (hb.mono X.out.size))
  replace Y1 := Lib.hid ((hb.block _ (lt_of_block Y1.out)).trans Y1.out)
  replace S1 := Lib.hid (S1.out.next hb)
  replace Y2 := Lib.hid ((hb.block _ (lt_of_block Y2.out)).trans Y2.out)
  replace S2 := Lib.hid (S2.out.next hb)
  replace Y3 := Lib.hid ((hb.block _ (lt_of_block Y3.out)).trans Y3.out)
  replace S3 := Lib.hid (S3.out.next hb)
  replace Y4 := Lib.hid ((hb.block _ (lt_of_block Y4.out)).trans Y4.out)
  replace S4 := Lib.hid (S4.out.next hb)
  replace Y5 := Lib.hid ((hb.block _ (lt_of_block Y5.out)).trans Y5.out)
  replace S5 := Lib.hid (S5.out.next hb)
  replace Y6 := Lib.hid ((hb.block _ (lt_of_block Y6.out)).trans Y6.out)
  replace S6 := Lib.hid (S6.out.next hb)
  have Y7 := Lib.hid hy
  have S7 := Lib.hid hs
  clear hb hy hs
  have JL7 := Lib.hid hj.1
  have JS7 := Lib.hid hj.2
  have OL7 := Lib.hid (JL7.out.ok OL4.out OL3.out)
  have OS7 := Lib.hid (JS7.out.ok OS4.out OS3.out)
  have NL7 : Hid (la7.length = lo) := Lib.hid (by have := hj.1.1; have := NL4.out; have := NL3.out; omega)
  have NS7 : Hid (sa7.length = h) := Lib.hid (by have := hj.2.1; have := NS4.out; have := NS3.out; omega)
  clear hj
  go_upto_region 20 with fail
  go_cut [25, 26] (fun va vb wx => vb = .int .i64 0 ∧ ∃ y A1 c1 A2 c2 la sa, va = .pointer (some ⟨y, 0, none⟩) ∧ (JoinL cs7 la2 la3 la ∧ JoinL cs7 sa2 sa3 sa) ∧ wx.heap[y]? = some (.cells #[.slice A1 la.length c1, .slice A2 sa.length c2] 75 (0, 0)) ∧ SV wx (.slice A1 la.length c1) (.slice A2 sa.length c2) la sa ∧ Below V9.heap.size V9 wx)
  case first => as_aux_lemma =>
    have m20 := kcells_of Y2.out 0
    have m21 := kcells_of Y2.out 1
    simp only [List.getElem?_toArray, List.getElem?_cons_succ, List.getElem?_cons_zero] at m20 m21
    have hy2 := lt_of_block Y2.out
    have m30 := kcells_of Y3.out 0
    have m31 := kcells_of Y3.out 1
    simp only [List.getElem?_toArray, List.getElem?_cons_succ, List.getElem?_cons_zero] at m30 m31
    have hy3 := lt_of_block Y3.out
    go_wp2_with fail
    refine (JoinStates_any (B := V9.heap.size) la2 sa2 la3 sa3 _ _ _ _ _ (HT.out.below (X.out.mono HT.out.hB)) S2.out.loc S2.out.stk S3.out.loc S3.out.stk (Nat.le_refl _) OL2.out.small OS2.out.small OL3.out.small OS3.out.small (by have := NL2.out; omega) (by have := NS2.out; omega) (by have := NS2.out; have := NS3.out; omega)).mono ?_
    rintro e w9 ⟨p1, l1, p2, l2, rfl, hp1, hp12, k1, k2, j1, j2, hb⟩
    have HB := Lib.hid hb
    have JJ := Lib.hid (And.intro j1 j2)
    have SS := Lib.hid (show SV w9 (.slice (some ⟨p1, 0, none⟩) l1.length l1.length) (.slice (some ⟨p2, 0, none⟩) l2.length l2.length) l1 l2 from ⟨k1.row (by have := j1.1; have := NL2.out; unfold maxLen; omega) (lt_of_block k1), k2.row (by have := j2.1; have := NS2.out; unfold maxLen; omega) (lt_of_block k2)⟩)
    clear hb j1 j2 k1 k2 hp1 hp12
    clear m20 m21 hy2
    clear m30 m31 hy3
    go_wp2
    go_meet
    case rel => exact ⟨rfl, _, _, _, _, _, l1, l2, rfl, JJ.out, hheap_new _ _, SS.out.next ((Below.refl _ _).alloc (Nat.le_refl _) _), HB.out.alloc HB.out.size _⟩
  obtain ⟨rfl, hcut⟩ := hcut
  obtain ⟨y8, A8, c8, D8, e8, la8, sa8, rfl, hj, hy, hs, hb⟩ := hcut
  obtain ⟨V10, hV⟩ : ∃ x, x = wc := ⟨_, rfl⟩
  subst hV
  replace X := Lib.hid (X.out.trans (hb.mono X.out.size))
  replace Y1 := Lib.hid ((hb.block _ (lt_of_block Y1.out)).trans Y1.out)
  replace S1 := Lib.hid (S1.out.next hb)
  replace Y2 := Lib.hid ((hb.block _ (lt_of_block Y2.out)).trans Y2.out)
  replace S2 := Lib.hid (S2.out.next hb)
  replace Y3 := Lib.hid ((hb.block _ (lt_of_block Y3.out)).trans Y3.out)
  replace S3 := Lib.hid (S3.out.next hb)
  replace Y4 := Lib.hid ((hb.block _ (lt_of_block Y4.out)).trans Y4.out)
  replace S4 := Lib.hid (S4.out.next hb)
  replace Y5 := Lib.hid ((hb.block _ (lt_of_block Y5.out)).trans Y5.out)
  replace S5 := Lib.hid (S5.out.next hb)
  replace Y6 := Lib.hid ((hb.block _ (lt_of_block Y6.out)).trans Y6.out)
  replace S6 := Lib.hid (S6.out.next hb)
  replace Y7 := Lib.hid ((hb.block _ (lt_of_block Y7.out)).trans Y7.out)
  replace S7 := Lib.hid (S7.out.next hb)
  have Y8 := Lib.hid hy
  have S8 := Lib.hid hs
  clear hb hy hs
  have JL8 := Lib.hid hj.1
  have JS8 := Lib.hid hj.2
  have OL8 := Lib.hid (JL8.out.ok OL2.out OL3.out)
  have OS8 := Lib.hid (JS8.out.ok OS2.out OS3.out)
  have NL8 : Hid (la8.length = lo) := Lib.hid (by have := hj.1.1; have := NL2.out; have := NL3.out; omega)
  have NS8 : Hid (sa8.length = h) := Lib.hid (by have := hj.2.1; have := NS2.out; have := NS3.out; omega)
  clear hj
  go_upto_region 21 with fail
  go_cut [27, 28] (fun va vb wx => vb = .int .i64 0 ∧ ∃ y A1 c1 A2 c2 la sa, va = .pointer (some ⟨y, 0, none⟩) ∧ (JoinL cs7 la1 la8 la ∧ JoinL cs7 sa1 sa8 sa) ∧ wx.heap[y]? = some (.cells #[.slice A1 la.length c1, .slice A2 sa.length c2] 75 (0, 0)) ∧ SV wx (.slice A1 la.length c1) (.slice A2 sa.length c2) la sa ∧ Below V10.heap.size V10 wx)
  case first => as_aux_lemma =>
    have m10 := kcells_of Y1.out 0
    have m11 := kcells_of Y1.out 1
    simp only [List.getElem?_toArray, List.getElem?_cons_succ, List.getElem?_cons_zero] at m10 m11
    have hy1 := lt_of_block Y1.out
    have m80 := kcells_of Y8.out 0
    have m81 := kcells_of Y8.out 1
    simp only [List.getElem?_toArray, List.getElem?_cons_succ, List.getElem?_cons_zero] at m80 m81
    have hy8 := lt_of_block Y8.out
    go_wp2_with fail
    refine (JoinStates_any (B := V10.heap.size) la1 sa1 la8 sa8 _ _ _ _ _ (HT.out.below (X.out.mono HT.out.hB)) S1.out.loc S1.out.stk S8.out.loc S8.out.stk (Nat.le_refl _) OL1.out.small OS1.out.small OL8.out.small OS8.out.small (by have := NL1.out; omega) (by have := NS1.out; omega) (by have := NS1.out; have := NS8.out; omega)).mono ?_
    rintro e w9 ⟨p1, l1, p2, l2, rfl, hp1, hp12, k1, k2, j1, j2, hb⟩
    have HB := Lib.hid hb
    have JJ := Lib.hid (And.intro j1 j2)
    have SS := Lib.hid (show SV w9 (.slice (some ⟨p1, 0, none⟩) l1.length l1.length) (.slice (some ⟨p2, 0, none⟩) l2.length l2.length) l1 l2 from ⟨k1.row (by have := j1.1; have := NL1.out; unfold maxLen; omega) (lt_of_block k1), k2.row (by have := j2.1; have := NS1.out; unfold maxLen; omega) (lt_of_block k2)⟩)
    clear hb j1 j2 k1 k2 hp1 hp12
    clear m10 m11 hy1
    clear m80 m81 hy8
    go_wp2
    go_meet
    case rel => exact ⟨rfl, _, _, _, _, _, l1, l2, rfl, JJ.out, hheap_new _ _, SS.out.next ((Below.refl _ _).alloc (Nat.le_refl _) _), HB.out.alloc HB.out.size _⟩
  obtain ⟨rfl, hcut⟩ := hcut
  obtain ⟨y9, A9, c9, D9, e9, la9, sa9, rfl, hj, hy, hs, hb⟩ := hcut
  obtain ⟨V11, hV⟩ : ∃ x, x = wc := ⟨_, rfl⟩
  subst hV
  replace X := Lib.hid (X.out.trans (hb.mono X.out.size))
  replace Y1 := Lib.hid ((hb.block _ (lt_of_block Y1.out)).trans Y1.out)
  replace S1 := Lib.hid (S1.out.next hb)
  replace Y2 := Lib.hid ((hb.block _ (lt_of_block Y2.out)).trans Y2.out)
  replace S2 := Lib.hid (S2.out.next hb)
  replace Y3 := Lib.hid ((hb.block _ (lt_of_block Y3.out)).trans Y3.out)
  replace S3 := Lib.hid (S3.out.next hb)
  replace Y4 := Lib.hid ((hb.block _ (lt_of_block Y4.out)).trans Y4.out)
  replace S4 := Lib.hid (S4.out.next hb)
  replace Y5 := Lib.hid ((hb.block _ (lt_of_block Y5.out)).trans Y5.out)
  replace S5 := Lib.hid (S5.out.next hb)
  replace Y6 := Lib.hid ((hb.block _ (lt_of_block Y6.out)).trans Y6.out)
  replace S6 := Lib.hid (S6.out.next hb)
  replace Y7 := Lib.hid ((hb.block _ (lt_of_block Y7.out)).trans Y7.out)
  replace S7 := Lib.hid (S7.out.next hb)
  replace Y8 := Lib.hid ((hb.block _ (lt_of_block Y8.out)).trans Y8.out)
  replace S8 := Lib.hid (S8.out.next hb)
  have Y9 := Lib.hid hy
  have S9 := Lib.hid hs
  clear hb hy hs
  have JL9 := Lib.hid hj.1
  have JS9 := Lib.hid hj.2
  have OL9 := Lib.hid (JL9.out.ok OL1.out OL8.out)
  have OS9 := Lib.hid (JS9.out.ok OS1.out OS8.out)
  have NL9 : Hid (la9.length = lo) := Lib.hid (by have := hj.1.1; have := NL1.out; have := NL8.out; omega)
  have NS9 : Hid (sa9.length = h) := Lib.hid (by have := hj.2.1; have := NS1.out; have := NS8.out; omega)
  clear hj
  have m70 := kcells_of Y7.out 0
  have m71 := kcells_of Y7.out 1
  simp only [List.getElem?_toArray, List.getElem?_cons_succ, List.getElem?_cons_zero] at m70 m71
  have hy7 := lt_of_block Y7.out
  have m90 := kcells_of Y9.out 0
  have m91 := kcells_of Y9.out 1
  simp only [List.getElem?_toArray, List.getElem?_cons_succ, List.getElem?_cons_zero] at m90 m91
  have hy9 := lt_of_block Y9.out
  go_wp2_with fail
  refine (Same_any (B := V11.heap.size) la7 sa7 la9 sa9 _ _ _ _ _ (S7.out.loc.below (Below.refl V11.heap.size V11)) (S7.out.stk.below (Below.refl V11.heap.size V11)) (S9.out.loc.below (Below.refl V11.heap.size V11)) (S9.out.stk.below (Below.refl V11.heap.size V11)) (Below.size (Below.refl V11.heap.size V11))).mono ?_
  rintro e x3 ⟨rfl, hb⟩
  rw [decide_eq_true (JL4.out.assoc JL7.out JL8.out JL9.out OL1.out OL2.out OL3.out), decide_eq_true (JS4.out.assoc JS7.out JS8.out JS9.out OS1.out OS2.out OS3.out)]
  have TT3 := Lib.hid (Below.hlink (Below.refl V11.heap.size V11) hb)
  clear hb
  have BZ := Lib.hid (Below.hlink (Below.hlink BU.out X.out) TT3.out)
  go_wp2
  go_ret
  exact ⟨rfl, BZ.out⟩
end Go.Proofs.YtmaknddlgppinaaGreatDoor
