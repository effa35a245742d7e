/-
  WALK of HierClosed.
-/
import Derived.Test.YtmaknddlgppinaaGreatDoorX06
import Derived.Test.YtmaknddlgppinaaGreatDoorX23
import Derived.Test.YtmaknddlgppinaaGreatDoorX29
import Derived.Deep.QuietTactic
set_option linter.unusedVariables false
set_option linter.unusedSimpArgs false
namespace Go.Proofs.YtmaknddlgppinaaGreatDoor
open Go.RowKit

set_option maxRecDepth 100000 in
theorem eql32n (q : Option Addr) (V : World) : (binOp .eql 32 (.pointer q) (.pointer none)).run Tryz.prog V = .ok (.bool (decide (q = none))) V := by
  cases q <;> kernel_rfl
/-- What Open answers: no table, or one. -/
def TblAt (tb : Nat) (w : World) : Prop := ∃ B mb A cap ow cs cl sl S, HT B tb mb A cap ow cs cl sl S w
def Tbl (q : Option Addr) (w : World) : Prop := q = none ∨ ∃ tb B mb A cap ow cs cl sl S, q = some ⟨tb, 0, none⟩ ∧ HT B tb mb A cap ow cs cl sl S w
set_option maxRecDepth 1000000 in
set_option maxHeartbeats 6400000 in
theorem closed_any {w : World} (hN : Blt w) {B0 : Nat} (rs ms : List Rw) (v v2 : Value) (hr : RawsRow B0 w v rs) (hm : RawsRow B0 w v2 ms) (hB : B0 ≤ w.heap.size) :
    Calls Tryz.prog 8 #[v, v2] w fun e w' => e = .returned (.bool true) ∧ Below w.heap.size w w' := by
  have HN := Lib.hid hN
  have HR := Lib.hid hr
  have HM := Lib.hid hm
  clear hN hr hm
  go_enter Tryz.func8, Tryz.ntmps8
  go_wp2_with fail
  refine (shown_any HN.out).mono ?_
  rintro e w1 ⟨rfl, b1⟩
  have N1 := Lib.hid (HN.out.below b1)
  have R1 := Lib.hid (HR.out.keep (fun p hp => b1.cell (Nat.lt_of_lt_of_le hp hB)))
  have M1 := Lib.hid (HM.out.keep (fun p hp => b1.cell (Nat.lt_of_lt_of_le hp hB)))
  have hB1 : B0 ≤ w1.heap.size := Nat.le_trans hB b1.size
  have B1 := Lib.hid b1
  clear b1 HN HR HM
  go_wp2_with fail
  refine (files_any rs v w1 R1.out hB1).mono ?_
  rintro e w2 ⟨vf, rfl, own, b2⟩
  have F2 := Lib.hid own.row
  have N2 := Lib.hid (N1.out.below b2)
  have M2 := Lib.hid (M1.out.keep (fun p hp => b2.cell (Nat.lt_of_lt_of_le hp hB1)))
  have hB2 : B0 ≤ w2.heap.size := Nat.le_trans hB1 b2.size
  have B2 := Lib.hid (B1.out.trans (b2.mono B1.out.size))
  clear own b2 N1 R1 M1 B1
  go_wp2_with fail
  refine (New_any N2.out (filesR rs) vf F2.out (Nat.le_refl _) (filesR_texts rs)).mono ?_
  rintro e w3 ⟨ha, b3⟩
  have M3 := Lib.hid (M2.out.keep (fun p hp => b3.cell (Nat.lt_of_lt_of_le hp hB2)))
  have hB3 : B0 ≤ w3.heap.size := Nat.le_trans hB2 b3.size
  have B3 := Lib.hid (B2.out.trans (b3.mono B2.out.size))
  clear b3 N2 F2 M2 B2
  rcases ha with ⟨x, a, ho, rfl⟩ | ⟨ds, nb, mb, A, cap, cl, sl, S, ho, rfl, ht⟩
  · clear ho
    go_wp2
    go_ret
    exact ⟨rfl, B3.out⟩
  have hop := open_raw good_built ho
  have hlen : ds.length ≤ 900 := by
    have := hop.2.2.1
    have h2 := hop.2.2.2
    have : builtP.length = 14 := rfl
    omega
  clear hop ho
  have HT3 := Lib.hid ht
  clear ht
  go_upto_region 7 with fail
  go_cut [9, 10, 11] (fun vt ve va wx => ∃ q, vt = .pointer q ∧ Tbl q wx ∧ Below w3.heap.size w3 wx)
  case first =>
    go_wp2_with fail
    refine (files_any ms v2 w3 M3.out hB3).mono ?_
    rintro e w4 ⟨vg, rfl, own, b4⟩
    have F4 := Lib.hid own.row
    have B4 := Lib.hid b4
    clear own b4
    go_wp2_with fail
    refine (Open_any (HT3.out.below B4.out) (filesR ms) vg F4.out (Nat.le_refl _) (filesR_texts ms) hlen).mono ?_
    rintro e w5 ⟨ha, b5⟩
    have B5 := Lib.hid (B4.out.trans (b5.mono B4.out.size))
    clear b5
    rcases ha with ⟨x, a, ho, rfl⟩ | ⟨ds2, nb2, mb2, A2, cap2, cl2, sl2, S2, ho, rfl, ht⟩
    · clear ho
      go_wp2
      go_meet
      case rel => exact ⟨_, rfl, .inl rfl, B5.out⟩
    · clear ho
      have HT5 := Lib.hid ht
      clear ht
      go_wp2
      go_meet
      case rel => exact ⟨_, rfl, .inr ⟨_, _, _, _, _, _, _, _, _, _, rfl, HT5.out⟩, B5.out⟩
  obtain ⟨q, rfl, hq, hb⟩ := hcut
  have Q := Lib.hid hq
  have B6 := Lib.hid hb
  clear hq hb
  obtain ⟨u7, hu⟩ : ∃ x, x = wc := ⟨_, rfl⟩
  subst hu
  have EQ := eql32n q
  go_upto_if 43 with fail
  clear EQ
  go_cut [9] (fun vt wx => wx = u7 ∧ ∃ tb, vt = .pointer (some ⟨tb, 0, none⟩) ∧ TblAt tb u7)
  case first =>
    cases q with
    | none =>
      go_wp2
      go_meet
      case rel => exact ⟨rfl, nb, rfl, _, _, _, _, _, _, _, _, _, HT3.out.below B6.out⟩
    | some p =>
      go_wp2
      go_meet
      case rel =>
        refine ⟨rfl, ?_⟩
        rcases Q.out with h | ⟨tb, h1, h2, h3, h4, h5, h6, h7, h8, h9, e, h⟩
        · cases h
        · cases e
          exact ⟨tb, rfl, _, _, _, _, _, _, _, _, _, h⟩
  obtain ⟨hw, tb, rfl, bb, mb4, A4, cap4, ow4, cs, cl4, sl4, S4, ht⟩ := hcut
  subst hw
  have HT7 := Lib.hid ht
  have B7 := Lib.hid (B3.out.trans (B6.out.mono B3.out.size))
  clear ht Q B6 HT3 B3 M3
  go_wp2_with fail
  refine (Names_any HT7.out).mono ?_
  rintro e w8 ⟨vn, rfl, own, b8⟩
  have NR := Lib.hid own.row
  obtain ⟨an, cn8, e8, hcap8, hmax8⟩ := own.row.length
  rw [List.length_map] at e8 hcap8 hmax8
  subst e8
  unfold maxLen at hmax8
  have C8 : Cl w bb tb mb4 A4 cap4 ow4 cs cl4 sl4 S4 w8.heap.size (.slice an cs.length cn8) w8 := ⟨HT7.out.below (b8.mono HT7.out.hB), NR.out, Nat.le_refl _, B7.out.trans (b8.mono B7.out.size), Nat.le_trans B7.out.size b8.size⟩
  have CC := Lib.hid C8
  clear C8 own b8 NR HT7 B7
  obtain ⟨n, hn⟩ : ∃ n, cs.length = n := ⟨_, rfl⟩
  rw [hn] at hcap8 hmax8
  have HNN := Lib.hid hn
  obtain ⟨vn, hvn⟩ : ∃ vn, vn = Value.slice an cs.length cn8 := ⟨_, rfl⟩
  rw [← hvn] at CC
  rw [hn] at hvn ⊢
  have HVN := Lib.hid hvn
  clear hn hvn
  go_wp2
  go_loopg [13] n (fun g iv wx => ∃ j : Nat, iv = .int .i64 j ∧ j + g = n ∧ Cl w bb tb mb4 A4 cap4 ow4 cs cl4 sl4 S4 w8.heap.size vn wx)
  case atStart => exact ⟨0, rfl, by omega, CC.out⟩
  case round =>
    obtain ⟨j, rfl, hjg, hcl⟩ := hrel
    have C := Lib.hid hcl
    clear hcl CC
    obtain ⟨wo, hwo⟩ : ∃ wo, wo = wr := ⟨_, rfl⟩
    subst hwo
    obtain ⟨g1, hg1⟩ : ∃ g, g = gk := ⟨_, rfl⟩
    subst hg1
    by_cases hj : j < n
    · have hjc : j < cs.length := by rw [HNN.out]; exact hj
      obtain ⟨c, hc⟩ : ∃ c, cs[j]? = some c := ⟨_, List.getElem?_eq_getElem hjc⟩
      have HC := Lib.hid hc
      have hrow := C.out.nr
      rw [HVN.out] at hrow
      obtain ⟨bn, on, s, rfl, hbn, cn, hs, hz⟩ := hrow.at_ (x := c.name) (by rw [List.getElem?_map, hc]; rfl)
      have hbnw : bn < wo.heap.size := Nat.lt_of_lt_of_le hbn C.out.bn
      have HS := Lib.hid hs
      clear hs hc hrow
      go_wp2_with fail
      refine (Find_any C.out.ht s hz).mono ?_
      rintro e w1 ⟨ha, b1⟩
      have hix : ix cs s.data.toList = some j := by rw [HS.out]; exact ix_of C.out.ht.good.apart HC.out
      rcases ha with ⟨h0, _⟩ | ⟨i', c', k', ifn, hi', hc', hnm, hifr, rfl⟩
      · rw [hix] at h0; cases h0
      obtain rfl : i' = j := by rw [hix] at hi'; cases hi'; rfl
      obtain rfl : c' = c := by have h := HC.out; rw [hc'] at h; cases h; rfl
      have cn1 := (b1.cell (p := ⟨bn, on + i', none⟩) hbnw).trans cn
      have hbn1 : bn < w1.heap.size := Nat.lt_of_lt_of_le hbnw b1.size
      have hns : (k'.name.toList == s.toList) = true := by
        have : k'.name.toList = s.toList := by rw [Lib.toList_data, Lib.toList_data, hnm.nm, HS.out]
        simpa using this
      have hns2 : (k'.name.toList != s.toList) = false := by simpa using hns
      obtain ⟨ai, ci, rfl, hcapi, hmaxi⟩ := hifr.length
      unfold maxLen at hmaxi
      have C1 := Lib.hid (C.out.next b1)
      have IR := Lib.hid hifr
      have NM := Lib.hid hnm
      have HIX := Lib.hid hix
      clear hifr hnm hix b1 hi' hc' cn
      go_wp2_with fail
      have hab := (Below.refl w1.heap.size w1).alloc (Nat.le_refl _) (.cells #[.string k'.name, .string k'.super, .slice ai c'.ifaces.length ci, .bool c'.iface, .bool c'.abs, .bool (decide (ow4 ≤ i')), .int .i64 c'.at_] 47)
      refine (Chain_any (C1.out.next hab).ht s hz).mono ?_
      rintro e w3 ⟨vl, l, rfl, hl, _, own, b3⟩
      have hch := hl i' HIX.out
      have hb13 := hab.trans (b3.mono hab.size)
      have cn3 := (hb13.cell (p := ⟨bn, on + i', none⟩) hbn1).trans cn1
      have hbn3 : bn < w3.heap.size := Nat.lt_of_lt_of_le hbn1 hb13.size
      have hml9 : (nms cs l).length ≤ 2 ^ 63 - 1 := by obtain ⟨_, _, _, _, h⟩ := own.row.length; exact h
      rw [show (nms cs l).length = l.length by simp [nms]] at hml9
      obtain ⟨al, cl9, rfl⟩ := own.form
      rw [show (nms cs l).length = l.length by simp [nms]] at own ⊢
      have hl0 := hch.head
      have hlen0 : 0 < l.length := (List.getElem?_eq_some_iff.1 hl0).1
      obtain ⟨lm, hlm⟩ : ∃ lm, l.length = lm := ⟨_, rfl⟩
      have HLM := Lib.hid hlm
      have CH := Lib.hid hch
      have C3 := C1.out.next hb13
      have hrow := own.row
      have hlast := hch.last_zero C3.ht.good hjc
      rw [List.getLast?_eq_getElem?] at hlast
      have hobj := C3.ht.good.obj
      rw [hlm] at hlast hlen0 hrow hml9
      obtain ⟨bl, ol, s0, e0, hbl, k0, hs0, hz0⟩ := hrow.at_ (nms_at hl0 HC.out)
      subst e0
      obtain ⟨bl', ol', s9, e0, hbl', k9, hs9, hz9⟩ := hrow.at_ (nms_at hlast hobj)
      injection e0 with e0
      injection e0 with e0 e1
      subst e0
      subst e1
      have CM := Lib.hid (show Cm w bb tb mb4 A4 cap4 ow4 cs cl4 sl4 S4 w8.heap.size vn w1.heap.size #[.string k'.name, .string k'.super, .slice ai c'.ifaces.length ci, .bool c'.iface, .bool c'.abs, .bool (decide (ow4 ≤ i')), .int .i64 c'.at_] w3.heap.size (.slice (some ⟨bl, ol, none⟩) lm cl9) (nms cs l) w1.heap.size (.slice ai c'.ifaces.length ci) c'.ifaces w3 from
        ⟨C3, (b3.block _ (by simp)).trans (hheap_new _ _), hrow, Nat.le_refl _, IR.out.keep (fun p hp => hb13.cell hp), hb13.size⟩)
      have z1 : (s0.toList == s.toList) = true := by
        have : s0.toList = s.toList := by rw [Lib.toList_data, Lib.toList_data, hs0, HS.out]
        simpa using this
      have z2 : (s0.toList != s.toList) = false := by simpa using z1
      have z3 : (s9.toList == [79, 98, 106, 101, 99, 116]) = true := by
        have : s9.toList = [79, 98, 106, 101, 99, 116] := by rw [Lib.toList_data, hs9]; rfl
        simpa using this
      have z4 : (s9.toList != [79, 98, 106, 101, 99, 116]) = false := by simpa using z3
      clear hl own b3 hb13 C3 hrow hlast hobj hl0 hs0 hs9 hch hlm hab C1 IR
      rw [HLM.out]
      generalize w1.heap.size = x14 at CM ⊢
      go_upto_region 16 with fail
      have n0 : w3.cell? ⟨x14, 0, none⟩ = some (.string k'.name) := kcells_of CM.out.box 0
      rw [Nat.add_zero] at k0
      have hp1 : IntKind.i64.wrap ((lm : Int) - 1) = ((lm - 1 : Nat) : Int) := by rw [IntWalk.i64_in _ (by omega)]; omega
      have hblw : bl < w3.heap.size := hbl
      have hl0b : ((lm : Int) == 0) = false := by simp; omega
      go_cut [102] (fun v wx => v = .bool false ∧ Drawn w3 wx)
      case first =>
        go_quiet (fail)
        go_wp2
        go_meet
        case rel =>
          exact ⟨rfl, (Drawn.refl _).step _⟩
      obtain ⟨rfl, hd⟩ := hcut
      have CN := Lib.hid (CM.out.next hd.below)
      have cnc := (hd.below.cell (p := ⟨bn, on + i', none⟩) hbn3).trans cn3
      have hbnc : bn < wc.heap.size := Nat.lt_of_lt_of_le hbn3 hd.below.size
      clear CM n0 k0 k9 cn3 hbn3 hd hblw hp1 hl0b hns hns2 z1 z2 z3 z4
      obtain ⟨u16, hu⟩ : ∃ x, x = wc := ⟨_, rfl⟩
      subst hu
      go_wp2
      go_loopg [17] lm (fun g iv wx => ∃ k : Nat, iv = .int .i64 k ∧ k + g = lm ∧ Below u16.heap.size u16 wx)
      case atStart => exact ⟨0, rfl, by omega, Below.refl _ _⟩
      case round =>
        obtain ⟨k, rfl, hkg, hb⟩ := hrel
        have BW := Lib.hid hb
        have cnw := (hb.cell (p := ⟨bn, on + i', none⟩) hbnc).trans cnc
        have hbnw : bn < wr.heap.size := Nat.lt_of_lt_of_le hbnc hb.size
        have CM := Lib.hid (CN.out.next hb)
        clear hb
        by_cases hk : k < lm
        · obtain ⟨x, d, hx, hd⟩ := chain_some CM.out.cl.ht.good CH.out hjc (k := k) (by rw [HLM.out]; exact hk)
          obtain ⟨bl', ol', t, e0, hblt, ck, hts, htz⟩ := CM.out.lr.at_ (nms_at hx hd)
          injection e0 with e0
          injection e0 with e0 e1
          subst e0
          subst e1
          have hblw : bl < wr.heap.size := Nat.lt_of_lt_of_le hblt CM.out.bl
          have HTS := Lib.hid hts
          have SU := Lib.hid (sub_up CM.out.cl.ht.good CH.out HC.out hd hx)
          have SD := Lib.hid (fun h0 : 0 < k => sub_down CM.out.cl.ht.good CH.out HC.out hd hx h0)
          have cn := cnw
          clear hts hx hd
          have hg1 : gk - 1 < gk := by omega
          go_upto_region 21 with fail
          go_cut [139] (fun v wx => v = .bool false ∧ Below wr.heap.size wr wx)
          case first => as_aux_lemma =>
            by_cases h0 : 0 < k
            · have q0 : decide ((0 : Int) < (k : Int)) = true := decide_eq_true (by omega)
              have q1 : (0 : Int) < (k : Int) := by omega
              have SDD := Lib.hid (SD.out h0)
              have T0 := (Below.refl wr.heap.size wr).drew
              refine wp_region_held_drew (S := fun V => Below wr.heap.size wr V) (by kernel_rfl) T0 (fun hS0 => ?_)
              refine wpAnyH_take (i := 0) (oi := ({ dst := some 109, op := Op.move (Operand.tmp 9), type := 32, pos := "more.go:79", after := #[], guard := none } : Oper)) (v := ?av20) rfl (by kernel_rfl) (by kernel_rfl) (by kernel_rfl) (fun _ _ _ h => h) (Or.inl ⟨by rfl, ?ay20⟩) T0 ?_
              case ay20 => (intro V hSw; go_simp; try with_reducible rfl)
              try simp only [Act.put, List.setIfInBounds_toArray, List.set_cons_zero, List.set_cons_succ]
              refine wpAnyH_take (i := 1) (oi := ({ dst := some 110, op := Op.move (Operand.tmp 12), type := 45, pos := "more.go:79", after := #[], guard := none } : Oper)) (v := ?av21) rfl (by kernel_rfl) (by kernel_rfl) (by kernel_rfl) (fun _ _ _ h => h) (Or.inl ⟨by rfl, ?ay21⟩) T0 ?_
              case ay21 => (intro V hSw; go_simp; try with_reducible rfl)
              try simp only [Act.put, List.setIfInBounds_toArray, List.set_cons_zero, List.set_cons_succ]
              refine wpAnyH_take (i := 2) (oi := ({ dst := some 111, op := Op.move (Operand.tmp 13), type := 3, pos := "more.go:79", after := #[], guard := none } : Oper)) (v := ?av22) rfl (by kernel_rfl) (by kernel_rfl) (by kernel_rfl) (fun _ _ _ h => h) (Or.inl ⟨by rfl, ?ay22⟩) T0 ?_
              case ay22 => (intro V hSw; go_simp; try with_reducible rfl)
              try simp only [Act.put, List.setIfInBounds_toArray, List.set_cons_zero, List.set_cons_succ]
              refine wpAnyH_take (i := 3) (oi := ({ dst := some 112, op := Op.indexAddr 45 (Operand.tmp 110) (Operand.tmp 111), type := 0, pos := "more.go:79", after := #[{ on := 1, ground := Ground.data }, { on := 2, ground := Ground.data }], guard := none } : Oper)) (v := ?av23) rfl (by kernel_rfl) (by kernel_rfl) (by kernel_rfl) (fun _ _ _ h => h) (Or.inl ⟨by rfl, ?ay23⟩) T0 ?_
              case ay23 => (intro V hSw; go_simp; try with_reducible rfl)
              try simp only [Act.put, List.setIfInBounds_toArray, List.set_cons_zero, List.set_cons_succ]
              refine wpAnyH_take (i := 4) (oi := ({ dst := some 113, op := Op.load 9 (Operand.tmp 112), type := 9, pos := "more.go:79", after := #[{ on := 3, ground := Ground.data }], guard := none } : Oper)) (v := ?av24) rfl (by kernel_rfl) (by kernel_rfl) (by kernel_rfl) (fun _ _ _ h => h) (Or.inl ⟨by rfl, ?ay24⟩) T0 ?_
              case ay24 => (intro V hSw; have e1 := (hSw.cell (p := ⟨bn, on + i', none⟩) hbnw).trans cn; go_simp; try with_reducible rfl)
              try simp only [Act.put, List.setIfInBounds_toArray, List.set_cons_zero, List.set_cons_succ]
              refine wpAnyH_take (i := 6) (oi := ({ dst := some 115, op := Op.move (Operand.tmp 16), type := 45, pos := "more.go:79", after := #[], guard := none } : Oper)) (v := ?av25) rfl (by kernel_rfl) (by kernel_rfl) (by kernel_rfl) (fun _ _ _ h => h) (Or.inl ⟨by rfl, ?ay25⟩) T0 ?_
              case ay25 => (intro V hSw; go_simp; try with_reducible rfl)
              try simp only [Act.put, List.setIfInBounds_toArray, List.set_cons_zero, List.set_cons_succ]
              refine wpAnyH_take (i := 7) (oi := ({ dst := some 116, op := Op.move (Operand.tmp 17), type := 3, pos := "more.go:79", after := #[], guard := none } : Oper)) (v := ?av26) rfl (by kernel_rfl) (by kernel_rfl) (by kernel_rfl) (fun _ _ _ h => h) (Or.inl ⟨by rfl, ?ay26⟩) T0 ?_
              case ay26 => (intro V hSw; go_simp; try with_reducible rfl)
              try simp only [Act.put, List.setIfInBounds_toArray, List.set_cons_zero, List.set_cons_succ]
              refine wpAnyH_take (i := 8) (oi := ({ dst := some 117, op := Op.indexAddr 45 (Operand.tmp 115) (Operand.tmp 116), type := 0, pos := "more.go:79", after := #[{ on := 6, ground := Ground.data }, { on := 7, ground := Ground.data }], guard := none } : Oper)) (v := ?av27) rfl (by kernel_rfl) (by kernel_rfl) (by kernel_rfl) (fun _ _ _ h => h) (Or.inl ⟨by rfl, ?ay27⟩) T0 ?_
              case ay27 => (intro V hSw; go_simp; try with_reducible rfl)
              try simp only [Act.put, List.setIfInBounds_toArray, List.set_cons_zero, List.set_cons_succ]
              refine wpAnyH_take (i := 9) (oi := ({ dst := some 118, op := Op.load 9 (Operand.tmp 117), type := 9, pos := "more.go:79", after := #[{ on := 8, ground := Ground.data }], guard := none } : Oper)) (v := ?av28) rfl (by kernel_rfl) (by kernel_rfl) (by kernel_rfl) (fun _ _ _ h => h) (Or.inl ⟨by rfl, ?ay28⟩) T0 ?_
              case ay28 => (intro V hSw; have e2 := (hSw.cell (p := ⟨bl, ol + k, none⟩) hblw).trans ck; go_simp; try with_reducible rfl)
              try simp only [Act.put, List.setIfInBounds_toArray, List.set_cons_zero, List.set_cons_succ]
              refine wpAnyH_ready (rs := [5]) (by kernel_rfl) (by simp) ?_
              refine (AllReadyH.cons (o := _) rfl (fun K hK => ?_) AllReadyH.nil)
              go_simp
              go_at_call 32
              refine (class_any _ _).mono ?_
              rintro e W29 ⟨rfl, hb29⟩
              have T29 := T0.trans (hb29.mono T0.size)
              try go_wp2_with fail
              refine hK.out _ _ T29 (fun hS29 => ?_)
              clear hK K
              try simp only [Act.put, List.setIfInBounds_toArray, List.set_cons_zero, List.set_cons_succ]
              refine wpAnyH_ready (rs := [10]) (by kernel_rfl) (by simp) ?_
              refine (AllReadyH.cons (o := _) rfl (fun K hK => ?_) AllReadyH.nil)
              go_simp
              go_at_call 32
              refine (class_any _ _).mono ?_
              rintro e W30 ⟨rfl, hb30⟩
              have T30 := T29.trans (hb30.mono T29.size)
              try go_wp2_with fail
              refine hK.out _ _ T30 (fun hS30 => ?_)
              clear hK K
              try simp only [Act.put, List.setIfInBounds_toArray, List.set_cons_zero, List.set_cons_succ]
              refine wpAnyH_ready (rs := [11]) (by kernel_rfl) (by simp) ?_
              refine (AllReadyH.cons (o := _) rfl (fun K hK => ?_) AllReadyH.nil)
              go_simp
              go_at_call 23
              refine (Sub_any (CM.out.next T30).cl.ht (by exact hz) (by exact htz)).mono ?_
              rintro e W31 ⟨r31, rfl, hr31, hb31⟩
              obtain rfl : r31 = true := hr31.2 (by rw [HS.out, HTS.out]; exact SU.out)
              have T31 := T30.trans (hb31.mono T30.size)
              clear hr31
              try go_wp2_with fail
              refine hK.out _ _ T31 (fun hS31 => ?_)
              clear hK K
              try simp only [Act.put, List.setIfInBounds_toArray, List.set_cons_zero, List.set_cons_succ]
              refine wpAnyH_take (i := 12) (oi := ({ dst := some 121, op := Op.unOp UnOp.not 4 (Operand.tmp 120), type := 4, pos := "more.go:79", after := #[{ on := 11, ground := Ground.data }], guard := none } : Oper)) (v := ?av32) rfl (by kernel_rfl) (by kernel_rfl) (by kernel_rfl) (fun _ _ _ h => h) (Or.inl ⟨by rfl, ?ay32⟩) T31 ?_
              case ay32 => (intro V hSw; go_simp; try with_reducible rfl)
              try simp only [Act.put, List.setIfInBounds_toArray, List.set_cons_zero, List.set_cons_succ]
              refine wpAnyH_take (i := 13) (oi := ({ dst := some 122, op := Op.move (Operand.tmp 121), type := 4, pos := "more.go:79", after := #[{ on := 12, ground := Ground.data }, { on := 11, ground := Ground.chain }], guard := none } : Oper)) (v := ?av33) rfl (by kernel_rfl) (by kernel_rfl) (by kernel_rfl) (fun _ _ _ h => h) (Or.inl ⟨by rfl, ?ay33⟩) T31 ?_
              case ay33 => (intro V hSw; go_simp; try with_reducible rfl)
              try simp only [Act.put, List.setIfInBounds_toArray, List.set_cons_zero, List.set_cons_succ]
              refine wpAnyH_take (i := 14) (oi := ({ dst := some 123, op := Op.move (Operand.tmp 17), type := 3, pos := "more.go:79", after := #[{ on := 13, ground := Ground.guard }], guard := some (13, false) } : Oper)) (v := ?av34) rfl (by kernel_rfl) (by kernel_rfl) (by kernel_rfl) (fun _ _ _ h => h) (Or.inl ⟨by rfl, ?ay34⟩) T31 ?_
              case ay34 => (intro V hSw; go_simp; try with_reducible rfl)
              try simp only [Act.put, List.setIfInBounds_toArray, List.set_cons_zero, List.set_cons_succ]
              refine wpAnyH_take (i := 15) (oi := ({ dst := some 124, op := Op.binOp BinOp.gtr 3 (Operand.tmp 123) (Operand.const (Value.int IntKind.i64 0)) 3, type := 4, pos := "more.go:79", after := #[{ on := 14, ground := Ground.data }, { on := 13, ground := Ground.guard }], guard := some (13, false) } : Oper)) (v := ?av35) rfl (by kernel_rfl) (by kernel_rfl) (by kernel_rfl) (fun _ _ _ h => h) (Or.inl ⟨by rfl, ?ay35⟩) T31 ?_
              case ay35 => (intro V hSw; go_simp; try with_reducible rfl)
              try simp only [Act.put, List.setIfInBounds_toArray, List.set_cons_zero, List.set_cons_succ]
              refine wpAnyH_take (i := 16) (oi := ({ dst := some 125, op := Op.move (Operand.tmp 124), type := 4, pos := "more.go:79", after := #[{ on := 15, ground := Ground.data }, { on := 13, ground := Ground.chain }, { on := 13, ground := Ground.guard }], guard := some (13, false) } : Oper)) (v := ?av36) rfl (by kernel_rfl) (by kernel_rfl) (by kernel_rfl) (fun _ _ _ h => h) (Or.inl ⟨by rfl, ?ay36⟩) T31 ?_
              case ay36 => (intro V hSw; go_simp; try with_reducible rfl)
              try simp only [Act.put, List.setIfInBounds_toArray, List.set_cons_zero, List.set_cons_succ]
              refine wpAnyH_take (i := 17) (oi := ({ dst := some 126, op := Op.move (Operand.tmp 9), type := 32, pos := "more.go:79", after := #[{ on := 16, ground := Ground.guard }], guard := some (16, true) } : Oper)) (v := ?av37) rfl (by kernel_rfl) (by kernel_rfl) (by kernel_rfl) (fun _ _ _ h => h) (Or.inl ⟨by rfl, ?ay37⟩) T31 ?_
              case ay37 => (intro V hSw; go_simp; try with_reducible rfl)
              try simp only [Act.put, List.setIfInBounds_toArray, List.set_cons_zero, List.set_cons_succ]
              refine wpAnyH_take (i := 18) (oi := ({ dst := some 127, op := Op.move (Operand.tmp 16), type := 45, pos := "more.go:79", after := #[{ on := 16, ground := Ground.guard }], guard := some (16, true) } : Oper)) (v := ?av38) rfl (by kernel_rfl) (by kernel_rfl) (by kernel_rfl) (fun _ _ _ h => h) (Or.inl ⟨by rfl, ?ay38⟩) T31 ?_
              case ay38 => (intro V hSw; go_simp; try with_reducible rfl)
              try simp only [Act.put, List.setIfInBounds_toArray, List.set_cons_zero, List.set_cons_succ]
              refine wpAnyH_take (i := 19) (oi := ({ dst := some 128, op := Op.move (Operand.tmp 17), type := 3, pos := "more.go:79", after := #[{ on := 16, ground := Ground.guard }], guard := some (16, true) } : Oper)) (v := ?av39) rfl (by kernel_rfl) (by kernel_rfl) (by kernel_rfl) (fun _ _ _ h => h) (Or.inl ⟨by rfl, ?ay39⟩) T31 ?_
              case ay39 => (intro V hSw; go_simp; try with_reducible rfl)
              try simp only [Act.put, List.setIfInBounds_toArray, List.set_cons_zero, List.set_cons_succ]
              refine wpAnyH_take (i := 20) (oi := ({ dst := some 129, op := Op.indexAddr 45 (Operand.tmp 127) (Operand.tmp 128), type := 0, pos := "more.go:79", after := #[{ on := 18, ground := Ground.data }, { on := 19, ground := Ground.data }, { on := 16, ground := Ground.guard }], guard := some (16, true) } : Oper)) (v := ?av40) rfl (by kernel_rfl) (by kernel_rfl) (by kernel_rfl) (fun _ _ _ h => h) (Or.inl ⟨by rfl, ?ay40⟩) T31 ?_
              case ay40 => (intro V hSw; go_simp; try with_reducible rfl)
              try simp only [Act.put, List.setIfInBounds_toArray, List.set_cons_zero, List.set_cons_succ]
              refine wpAnyH_take (i := 21) (oi := ({ dst := some 130, op := Op.load 9 (Operand.tmp 129), type := 9, pos := "more.go:79", after := #[{ on := 20, ground := Ground.data }, { on := 16, ground := Ground.guard }], guard := some (16, true) } : Oper)) (v := ?av41) rfl (by kernel_rfl) (by kernel_rfl) (by kernel_rfl) (fun _ _ _ h => h) (Or.inl ⟨by rfl, ?ay41⟩) T31 ?_
              case ay41 => (intro V hSw; have e2 := (hSw.cell (p := ⟨bl, ol + k, none⟩) hblw).trans ck; go_simp; try with_reducible rfl)
              try simp only [Act.put, List.setIfInBounds_toArray, List.set_cons_zero, List.set_cons_succ]
              refine wpAnyH_take (i := 23) (oi := ({ dst := some 132, op := Op.move (Operand.tmp 12), type := 45, pos := "more.go:79", after := #[{ on := 16, ground := Ground.guard }], guard := some (16, true) } : Oper)) (v := ?av42) rfl (by kernel_rfl) (by kernel_rfl) (by kernel_rfl) (fun _ _ _ h => h) (Or.inl ⟨by rfl, ?ay42⟩) T31 ?_
              case ay42 => (intro V hSw; go_simp; try with_reducible rfl)
              try simp only [Act.put, List.setIfInBounds_toArray, List.set_cons_zero, List.set_cons_succ]
              refine wpAnyH_take (i := 24) (oi := ({ dst := some 133, op := Op.move (Operand.tmp 13), type := 3, pos := "more.go:79", after := #[{ on := 16, ground := Ground.guard }], guard := some (16, true) } : Oper)) (v := ?av43) rfl (by kernel_rfl) (by kernel_rfl) (by kernel_rfl) (fun _ _ _ h => h) (Or.inl ⟨by rfl, ?ay43⟩) T31 ?_
              case ay43 => (intro V hSw; go_simp; try with_reducible rfl)
              try simp only [Act.put, List.setIfInBounds_toArray, List.set_cons_zero, List.set_cons_succ]
              refine wpAnyH_take (i := 25) (oi := ({ dst := some 134, op := Op.indexAddr 45 (Operand.tmp 132) (Operand.tmp 133), type := 0, pos := "more.go:79", after := #[{ on := 23, ground := Ground.data }, { on := 24, ground := Ground.data }, { on := 16, ground := Ground.guard }], guard := some (16, true) } : Oper)) (v := ?av44) rfl (by kernel_rfl) (by kernel_rfl) (by kernel_rfl) (fun _ _ _ h => h) (Or.inl ⟨by rfl, ?ay44⟩) T31 ?_
              case ay44 => (intro V hSw; go_simp; try with_reducible rfl)
              try simp only [Act.put, List.setIfInBounds_toArray, List.set_cons_zero, List.set_cons_succ]
              refine wpAnyH_take (i := 26) (oi := ({ dst := some 135, op := Op.load 9 (Operand.tmp 134), type := 9, pos := "more.go:79", after := #[{ on := 25, ground := Ground.data }, { on := 16, ground := Ground.guard }], guard := some (16, true) } : Oper)) (v := ?av45) rfl (by kernel_rfl) (by kernel_rfl) (by kernel_rfl) (fun _ _ _ h => h) (Or.inl ⟨by rfl, ?ay45⟩) T31 ?_
              case ay45 => (intro V hSw; have e1 := (hSw.cell (p := ⟨bn, on + i', none⟩) hbnw).trans cn; go_simp; try with_reducible rfl)
              try simp only [Act.put, List.setIfInBounds_toArray, List.set_cons_zero, List.set_cons_succ]
              refine wpAnyH_ready (rs := [22]) (by kernel_rfl) (by simp) ?_
              refine (AllReadyH.cons (o := _) rfl (fun K hK => ?_) AllReadyH.nil)
              go_simp
              go_at_call 32
              refine (class_any _ _).mono ?_
              rintro e W46 ⟨rfl, hb46⟩
              have T46 := T31.trans (hb46.mono T31.size)
              try go_wp2_with fail
              refine hK.out _ _ T46 (fun hS46 => ?_)
              clear hK K
              try simp only [Act.put, List.setIfInBounds_toArray, List.set_cons_zero, List.set_cons_succ]
              refine wpAnyH_ready (rs := [27]) (by kernel_rfl) (by simp) ?_
              refine (AllReadyH.cons (o := _) rfl (fun K hK => ?_) AllReadyH.nil)
              go_simp
              go_at_call 32
              refine (class_any _ _).mono ?_
              rintro e W47 ⟨rfl, hb47⟩
              have T47 := T46.trans (hb47.mono T46.size)
              try go_wp2_with fail
              refine hK.out _ _ T47 (fun hS47 => ?_)
              clear hK K
              try simp only [Act.put, List.setIfInBounds_toArray, List.set_cons_zero, List.set_cons_succ]
              refine wpAnyH_ready (rs := [28]) (by kernel_rfl) (by simp) ?_
              refine (AllReadyH.cons (o := _) rfl (fun K hK => ?_) AllReadyH.nil)
              go_simp
              go_at_call 23
              refine (Sub_any (CM.out.next T47).cl.ht (by exact htz) (by exact hz)).mono ?_
              rintro e W48 ⟨r48, rfl, hr48, hb48⟩
              obtain rfl : r48 = false := Bool.eq_false_iff.2 fun hx => SDD.out (by have := hr48.1 hx; rwa [HS.out, HTS.out] at this)
              have T48 := T47.trans (hb48.mono T47.size)
              clear hr48
              try go_wp2_with fail
              refine hK.out _ _ T48 (fun hS48 => ?_)
              clear hK K
              try simp only [Act.put, List.setIfInBounds_toArray, List.set_cons_zero, List.set_cons_succ]
              refine wpAnyH_take (i := 29) (oi := ({ dst := some 138, op := Op.pick (Operand.tmp 125) (Operand.tmp 137) (Operand.const (Value.bool false)), type := 4, pos := "more.go:79", after := #[{ on := 16, ground := Ground.data }, { on := 28, ground := Ground.data }, { on := 13, ground := Ground.guard }], guard := some (13, false) } : Oper)) (v := ?av49) rfl (by kernel_rfl) (by kernel_rfl) (by kernel_rfl) (fun _ _ _ h => h) (Or.inl ⟨by rfl, ?ay49⟩) T48 ?_
              case ay49 => (intro V hSw; go_simp; try with_reducible rfl)
              try simp only [Act.put, List.setIfInBounds_toArray, List.set_cons_zero, List.set_cons_succ]
              refine wpAnyH_take (i := 30) (oi := ({ dst := some 139, op := Op.pick (Operand.tmp 122) (Operand.const (Value.bool true)) (Operand.tmp 138), type := 4, pos := "more.go:79", after := #[{ on := 13, ground := Ground.data }, { on := 29, ground := Ground.data }], guard := none } : Oper)) (v := ?av50) rfl (by kernel_rfl) (by kernel_rfl) (by kernel_rfl) (fun _ _ _ h => h) (Or.inl ⟨by rfl, ?ay50⟩) T48 ?_
              case ay50 => (intro V hSw; go_simp; try with_reducible rfl)
              try simp only [Act.put, List.setIfInBounds_toArray, List.set_cons_zero, List.set_cons_succ]
              refine wpAnyH_done (by kernel_rfl) ?_ _
              try go_wp2
              go_meet
              case rel => exact ⟨rfl, T48⟩
            · have q0 : decide ((0 : Int) < (k : Int)) = false := decide_eq_false (by omega)
              have q1 : ((0 : Int) < (k : Int)) = False := eq_false (by omega)
              have T0 := (Below.refl wr.heap.size wr).drew
              refine wp_region_held_drew (S := fun V => Below wr.heap.size wr V) (by kernel_rfl) T0 (fun hS0 => ?_)
              refine wpAnyH_take (i := 0) (oi := ({ dst := some 109, op := Op.move (Operand.tmp 9), type := 32, pos := "more.go:79", after := #[], guard := none } : Oper)) (v := ?av1) rfl (by kernel_rfl) (by kernel_rfl) (by kernel_rfl) (fun _ _ _ h => h) (Or.inl ⟨by rfl, ?ay1⟩) T0 ?_
              case ay1 => (intro V hSw; go_simp; try with_reducible rfl)
              try simp only [Act.put, List.setIfInBounds_toArray, List.set_cons_zero, List.set_cons_succ]
              refine wpAnyH_take (i := 1) (oi := ({ dst := some 110, op := Op.move (Operand.tmp 12), type := 45, pos := "more.go:79", after := #[], guard := none } : Oper)) (v := ?av2) rfl (by kernel_rfl) (by kernel_rfl) (by kernel_rfl) (fun _ _ _ h => h) (Or.inl ⟨by rfl, ?ay2⟩) T0 ?_
              case ay2 => (intro V hSw; go_simp; try with_reducible rfl)
              try simp only [Act.put, List.setIfInBounds_toArray, List.set_cons_zero, List.set_cons_succ]
              refine wpAnyH_take (i := 2) (oi := ({ dst := some 111, op := Op.move (Operand.tmp 13), type := 3, pos := "more.go:79", after := #[], guard := none } : Oper)) (v := ?av3) rfl (by kernel_rfl) (by kernel_rfl) (by kernel_rfl) (fun _ _ _ h => h) (Or.inl ⟨by rfl, ?ay3⟩) T0 ?_
              case ay3 => (intro V hSw; go_simp; try with_reducible rfl)
              try simp only [Act.put, List.setIfInBounds_toArray, List.set_cons_zero, List.set_cons_succ]
              refine wpAnyH_take (i := 3) (oi := ({ dst := some 112, op := Op.indexAddr 45 (Operand.tmp 110) (Operand.tmp 111), type := 0, pos := "more.go:79", after := #[{ on := 1, ground := Ground.data }, { on := 2, ground := Ground.data }], guard := none } : Oper)) (v := ?av4) rfl (by kernel_rfl) (by kernel_rfl) (by kernel_rfl) (fun _ _ _ h => h) (Or.inl ⟨by rfl, ?ay4⟩) T0 ?_
              case ay4 => (intro V hSw; go_simp; try with_reducible rfl)
              try simp only [Act.put, List.setIfInBounds_toArray, List.set_cons_zero, List.set_cons_succ]
              refine wpAnyH_take (i := 4) (oi := ({ dst := some 113, op := Op.load 9 (Operand.tmp 112), type := 9, pos := "more.go:79", after := #[{ on := 3, ground := Ground.data }], guard := none } : Oper)) (v := ?av5) rfl (by kernel_rfl) (by kernel_rfl) (by kernel_rfl) (fun _ _ _ h => h) (Or.inl ⟨by rfl, ?ay5⟩) T0 ?_
              case ay5 => (intro V hSw; have e1 := (hSw.cell (p := ⟨bn, on + i', none⟩) hbnw).trans cn; go_simp; try with_reducible rfl)
              try simp only [Act.put, List.setIfInBounds_toArray, List.set_cons_zero, List.set_cons_succ]
              refine wpAnyH_take (i := 6) (oi := ({ dst := some 115, op := Op.move (Operand.tmp 16), type := 45, pos := "more.go:79", after := #[], guard := none } : Oper)) (v := ?av6) rfl (by kernel_rfl) (by kernel_rfl) (by kernel_rfl) (fun _ _ _ h => h) (Or.inl ⟨by rfl, ?ay6⟩) T0 ?_
              case ay6 => (intro V hSw; go_simp; try with_reducible rfl)
              try simp only [Act.put, List.setIfInBounds_toArray, List.set_cons_zero, List.set_cons_succ]
              refine wpAnyH_take (i := 7) (oi := ({ dst := some 116, op := Op.move (Operand.tmp 17), type := 3, pos := "more.go:79", after := #[], guard := none } : Oper)) (v := ?av7) rfl (by kernel_rfl) (by kernel_rfl) (by kernel_rfl) (fun _ _ _ h => h) (Or.inl ⟨by rfl, ?ay7⟩) T0 ?_
              case ay7 => (intro V hSw; go_simp; try with_reducible rfl)
              try simp only [Act.put, List.setIfInBounds_toArray, List.set_cons_zero, List.set_cons_succ]
              refine wpAnyH_take (i := 8) (oi := ({ dst := some 117, op := Op.indexAddr 45 (Operand.tmp 115) (Operand.tmp 116), type := 0, pos := "more.go:79", after := #[{ on := 6, ground := Ground.data }, { on := 7, ground := Ground.data }], guard := none } : Oper)) (v := ?av8) rfl (by kernel_rfl) (by kernel_rfl) (by kernel_rfl) (fun _ _ _ h => h) (Or.inl ⟨by rfl, ?ay8⟩) T0 ?_
              case ay8 => (intro V hSw; go_simp; try with_reducible rfl)
              try simp only [Act.put, List.setIfInBounds_toArray, List.set_cons_zero, List.set_cons_succ]
              refine wpAnyH_take (i := 9) (oi := ({ dst := some 118, op := Op.load 9 (Operand.tmp 117), type := 9, pos := "more.go:79", after := #[{ on := 8, ground := Ground.data }], guard := none } : Oper)) (v := ?av9) rfl (by kernel_rfl) (by kernel_rfl) (by kernel_rfl) (fun _ _ _ h => h) (Or.inl ⟨by rfl, ?ay9⟩) T0 ?_
              case ay9 => (intro V hSw; have e2 := (hSw.cell (p := ⟨bl, ol + k, none⟩) hblw).trans ck; go_simp; try with_reducible rfl)
              try simp only [Act.put, List.setIfInBounds_toArray, List.set_cons_zero, List.set_cons_succ]
              refine wpAnyH_ready (rs := [5]) (by kernel_rfl) (by simp) ?_
              refine (AllReadyH.cons (o := _) rfl (fun K hK => ?_) AllReadyH.nil)
              go_simp
              go_at_call 32
              refine (class_any _ _).mono ?_
              rintro e W10 ⟨rfl, hb10⟩
              have T10 := T0.trans (hb10.mono T0.size)
              try go_wp2_with fail
              refine hK.out _ _ T10 (fun hS10 => ?_)
              clear hK K
              try simp only [Act.put, List.setIfInBounds_toArray, List.set_cons_zero, List.set_cons_succ]
              refine wpAnyH_ready (rs := [10]) (by kernel_rfl) (by simp) ?_
              refine (AllReadyH.cons (o := _) rfl (fun K hK => ?_) AllReadyH.nil)
              go_simp
              go_at_call 32
              refine (class_any _ _).mono ?_
              rintro e W11 ⟨rfl, hb11⟩
              have T11 := T10.trans (hb11.mono T10.size)
              try go_wp2_with fail
              refine hK.out _ _ T11 (fun hS11 => ?_)
              clear hK K
              try simp only [Act.put, List.setIfInBounds_toArray, List.set_cons_zero, List.set_cons_succ]
              refine wpAnyH_ready (rs := [11]) (by kernel_rfl) (by simp) ?_
              refine (AllReadyH.cons (o := _) rfl (fun K hK => ?_) AllReadyH.nil)
              go_simp
              go_at_call 23
              refine (Sub_any (CM.out.next T11).cl.ht (by exact hz) (by exact htz)).mono ?_
              rintro e W12 ⟨r12, rfl, hr12, hb12⟩
              obtain rfl : r12 = true := hr12.2 (by rw [HS.out, HTS.out]; exact SU.out)
              have T12 := T11.trans (hb12.mono T11.size)
              clear hr12
              try go_wp2_with fail
              refine hK.out _ _ T12 (fun hS12 => ?_)
              clear hK K
              try simp only [Act.put, List.setIfInBounds_toArray, List.set_cons_zero, List.set_cons_succ]
              refine wpAnyH_take (i := 12) (oi := ({ dst := some 121, op := Op.unOp UnOp.not 4 (Operand.tmp 120), type := 4, pos := "more.go:79", after := #[{ on := 11, ground := Ground.data }], guard := none } : Oper)) (v := ?av13) rfl (by kernel_rfl) (by kernel_rfl) (by kernel_rfl) (fun _ _ _ h => h) (Or.inl ⟨by rfl, ?ay13⟩) T12 ?_
              case ay13 => (intro V hSw; go_simp; try with_reducible rfl)
              try simp only [Act.put, List.setIfInBounds_toArray, List.set_cons_zero, List.set_cons_succ]
              refine wpAnyH_take (i := 13) (oi := ({ dst := some 122, op := Op.move (Operand.tmp 121), type := 4, pos := "more.go:79", after := #[{ on := 12, ground := Ground.data }, { on := 11, ground := Ground.chain }], guard := none } : Oper)) (v := ?av14) rfl (by kernel_rfl) (by kernel_rfl) (by kernel_rfl) (fun _ _ _ h => h) (Or.inl ⟨by rfl, ?ay14⟩) T12 ?_
              case ay14 => (intro V hSw; go_simp; try with_reducible rfl)
              try simp only [Act.put, List.setIfInBounds_toArray, List.set_cons_zero, List.set_cons_succ]
              refine wpAnyH_take (i := 14) (oi := ({ dst := some 123, op := Op.move (Operand.tmp 17), type := 3, pos := "more.go:79", after := #[{ on := 13, ground := Ground.guard }], guard := some (13, false) } : Oper)) (v := ?av15) rfl (by kernel_rfl) (by kernel_rfl) (by kernel_rfl) (fun _ _ _ h => h) (Or.inl ⟨by rfl, ?ay15⟩) T12 ?_
              case ay15 => (intro V hSw; go_simp; try with_reducible rfl)
              try simp only [Act.put, List.setIfInBounds_toArray, List.set_cons_zero, List.set_cons_succ]
              refine wpAnyH_take (i := 15) (oi := ({ dst := some 124, op := Op.binOp BinOp.gtr 3 (Operand.tmp 123) (Operand.const (Value.int IntKind.i64 0)) 3, type := 4, pos := "more.go:79", after := #[{ on := 14, ground := Ground.data }, { on := 13, ground := Ground.guard }], guard := some (13, false) } : Oper)) (v := ?av16) rfl (by kernel_rfl) (by kernel_rfl) (by kernel_rfl) (fun _ _ _ h => h) (Or.inl ⟨by rfl, ?ay16⟩) T12 ?_
              case ay16 => (intro V hSw; go_simp; try with_reducible rfl)
              try simp only [Act.put, List.setIfInBounds_toArray, List.set_cons_zero, List.set_cons_succ]
              refine wpAnyH_take (i := 16) (oi := ({ dst := some 125, op := Op.move (Operand.tmp 124), type := 4, pos := "more.go:79", after := #[{ on := 15, ground := Ground.data }, { on := 13, ground := Ground.chain }, { on := 13, ground := Ground.guard }], guard := some (13, false) } : Oper)) (v := ?av17) rfl (by kernel_rfl) (by kernel_rfl) (by kernel_rfl) (fun _ _ _ h => h) (Or.inl ⟨by rfl, ?ay17⟩) T12 ?_
              case ay17 => (intro V hSw; go_simp; try with_reducible rfl)
              try simp only [Act.put, List.setIfInBounds_toArray, List.set_cons_zero, List.set_cons_succ]
              refine wpAnyH_take (i := 17) (oi := ({ dst := some 126, op := Op.move (Operand.tmp 9), type := 32, pos := "more.go:79", after := #[{ on := 16, ground := Ground.guard }], guard := some (16, true) } : Oper)) (v := undef) rfl (by kernel_rfl) (by kernel_rfl) (by kernel_rfl) (fun _ _ _ h => h) (Or.inr ⟨by rfl, rfl⟩) T12 ?_
              try simp only [Act.put, List.setIfInBounds_toArray, List.set_cons_zero, List.set_cons_succ]
              refine wpAnyH_take (i := 18) (oi := ({ dst := some 127, op := Op.move (Operand.tmp 16), type := 45, pos := "more.go:79", after := #[{ on := 16, ground := Ground.guard }], guard := some (16, true) } : Oper)) (v := undef) rfl (by kernel_rfl) (by kernel_rfl) (by kernel_rfl) (fun _ _ _ h => h) (Or.inr ⟨by rfl, rfl⟩) T12 ?_
              try simp only [Act.put, List.setIfInBounds_toArray, List.set_cons_zero, List.set_cons_succ]
              refine wpAnyH_take (i := 19) (oi := ({ dst := some 128, op := Op.move (Operand.tmp 17), type := 3, pos := "more.go:79", after := #[{ on := 16, ground := Ground.guard }], guard := some (16, true) } : Oper)) (v := undef) rfl (by kernel_rfl) (by kernel_rfl) (by kernel_rfl) (fun _ _ _ h => h) (Or.inr ⟨by rfl, rfl⟩) T12 ?_
              try simp only [Act.put, List.setIfInBounds_toArray, List.set_cons_zero, List.set_cons_succ]
              refine wpAnyH_take (i := 20) (oi := ({ dst := some 129, op := Op.indexAddr 45 (Operand.tmp 127) (Operand.tmp 128), type := 0, pos := "more.go:79", after := #[{ on := 18, ground := Ground.data }, { on := 19, ground := Ground.data }, { on := 16, ground := Ground.guard }], guard := some (16, true) } : Oper)) (v := undef) rfl (by kernel_rfl) (by kernel_rfl) (by kernel_rfl) (fun _ _ _ h => h) (Or.inr ⟨by rfl, rfl⟩) T12 ?_
              try simp only [Act.put, List.setIfInBounds_toArray, List.set_cons_zero, List.set_cons_succ]
              refine wpAnyH_take (i := 21) (oi := ({ dst := some 130, op := Op.load 9 (Operand.tmp 129), type := 9, pos := "more.go:79", after := #[{ on := 20, ground := Ground.data }, { on := 16, ground := Ground.guard }], guard := some (16, true) } : Oper)) (v := undef) rfl (by kernel_rfl) (by kernel_rfl) (by kernel_rfl) (fun _ _ _ h => h) (Or.inr ⟨by rfl, rfl⟩) T12 ?_
              try simp only [Act.put, List.setIfInBounds_toArray, List.set_cons_zero, List.set_cons_succ]
              refine wpAnyH_take (i := 22) (oi := ({ dst := some 131, op := Op.call { callee := Callee.value (Operand.func 32), args := #[Operand.tmp 130], argTypes := #[9] }, type := 31, pos := "more.go:79", after := #[{ on := 21, ground := Ground.data }, { on := 16, ground := Ground.chain }, { on := 16, ground := Ground.guard }], guard := some (16, true) } : Oper)) (v := undef) rfl (by kernel_rfl) (by kernel_rfl) (by kernel_rfl) (fun _ _ _ h => h) (Or.inr ⟨by rfl, rfl⟩) T12 ?_
              try simp only [Act.put, List.setIfInBounds_toArray, List.set_cons_zero, List.set_cons_succ]
              refine wpAnyH_take (i := 23) (oi := ({ dst := some 132, op := Op.move (Operand.tmp 12), type := 45, pos := "more.go:79", after := #[{ on := 16, ground := Ground.guard }], guard := some (16, true) } : Oper)) (v := undef) rfl (by kernel_rfl) (by kernel_rfl) (by kernel_rfl) (fun _ _ _ h => h) (Or.inr ⟨by rfl, rfl⟩) T12 ?_
              try simp only [Act.put, List.setIfInBounds_toArray, List.set_cons_zero, List.set_cons_succ]
              refine wpAnyH_take (i := 24) (oi := ({ dst := some 133, op := Op.move (Operand.tmp 13), type := 3, pos := "more.go:79", after := #[{ on := 16, ground := Ground.guard }], guard := some (16, true) } : Oper)) (v := undef) rfl (by kernel_rfl) (by kernel_rfl) (by kernel_rfl) (fun _ _ _ h => h) (Or.inr ⟨by rfl, rfl⟩) T12 ?_
              try simp only [Act.put, List.setIfInBounds_toArray, List.set_cons_zero, List.set_cons_succ]
              refine wpAnyH_take (i := 25) (oi := ({ dst := some 134, op := Op.indexAddr 45 (Operand.tmp 132) (Operand.tmp 133), type := 0, pos := "more.go:79", after := #[{ on := 23, ground := Ground.data }, { on := 24, ground := Ground.data }, { on := 16, ground := Ground.guard }], guard := some (16, true) } : Oper)) (v := undef) rfl (by kernel_rfl) (by kernel_rfl) (by kernel_rfl) (fun _ _ _ h => h) (Or.inr ⟨by rfl, rfl⟩) T12 ?_
              try simp only [Act.put, List.setIfInBounds_toArray, List.set_cons_zero, List.set_cons_succ]
              refine wpAnyH_take (i := 26) (oi := ({ dst := some 135, op := Op.load 9 (Operand.tmp 134), type := 9, pos := "more.go:79", after := #[{ on := 25, ground := Ground.data }, { on := 16, ground := Ground.guard }], guard := some (16, true) } : Oper)) (v := undef) rfl (by kernel_rfl) (by kernel_rfl) (by kernel_rfl) (fun _ _ _ h => h) (Or.inr ⟨by rfl, rfl⟩) T12 ?_
              try simp only [Act.put, List.setIfInBounds_toArray, List.set_cons_zero, List.set_cons_succ]
              refine wpAnyH_take (i := 27) (oi := ({ dst := some 136, op := Op.call { callee := Callee.value (Operand.func 32), args := #[Operand.tmp 135], argTypes := #[9] }, type := 31, pos := "more.go:79", after := #[{ on := 26, ground := Ground.data }, { on := 22, ground := Ground.chain }, { on := 16, ground := Ground.guard }], guard := some (16, true) } : Oper)) (v := undef) rfl (by kernel_rfl) (by kernel_rfl) (by kernel_rfl) (fun _ _ _ h => h) (Or.inr ⟨by rfl, rfl⟩) T12 ?_
              try simp only [Act.put, List.setIfInBounds_toArray, List.set_cons_zero, List.set_cons_succ]
              refine wpAnyH_take (i := 28) (oi := ({ dst := some 137, op := Op.call { callee := Callee.value (Operand.func 23), args := #[Operand.tmp 126, Operand.tmp 131, Operand.tmp 136], argTypes := #[32, 31, 31] }, type := 4, pos := "more.go:79", after := #[{ on := 17, ground := Ground.data }, { on := 22, ground := Ground.data }, { on := 27, ground := Ground.data }, { on := 27, ground := Ground.chain }, { on := 16, ground := Ground.guard }], guard := some (16, true) } : Oper)) (v := undef) rfl (by kernel_rfl) (by kernel_rfl) (by kernel_rfl) (fun _ _ _ h => h) (Or.inr ⟨by rfl, rfl⟩) T12 ?_
              try simp only [Act.put, List.setIfInBounds_toArray, List.set_cons_zero, List.set_cons_succ]
              refine wpAnyH_take (i := 29) (oi := ({ dst := some 138, op := Op.pick (Operand.tmp 125) (Operand.tmp 137) (Operand.const (Value.bool false)), type := 4, pos := "more.go:79", after := #[{ on := 16, ground := Ground.data }, { on := 28, ground := Ground.data }, { on := 13, ground := Ground.guard }], guard := some (13, false) } : Oper)) (v := ?av18) rfl (by kernel_rfl) (by kernel_rfl) (by kernel_rfl) (fun _ _ _ h => h) (Or.inl ⟨by rfl, ?ay18⟩) T12 ?_
              case ay18 => (intro V hSw; go_simp; try with_reducible rfl)
              try simp only [Act.put, List.setIfInBounds_toArray, List.set_cons_zero, List.set_cons_succ]
              refine wpAnyH_take (i := 30) (oi := ({ dst := some 139, op := Op.pick (Operand.tmp 122) (Operand.const (Value.bool true)) (Operand.tmp 138), type := 4, pos := "more.go:79", after := #[{ on := 13, ground := Ground.data }, { on := 29, ground := Ground.data }], guard := none } : Oper)) (v := ?av19) rfl (by kernel_rfl) (by kernel_rfl) (by kernel_rfl) (fun _ _ _ h => h) (Or.inl ⟨by rfl, ?ay19⟩) T12 ?_
              case ay19 => (intro V hSw; go_simp; try with_reducible rfl)
              try simp only [Act.put, List.setIfInBounds_toArray, List.set_cons_zero, List.set_cons_succ]
              refine wpAnyH_done (by kernel_rfl) ?_ _
              try go_wp2
              go_meet
              case rel => exact ⟨rfl, T12⟩
          obtain ⟨rfl, hb⟩ := hcut
          have BX := Lib.hid (BW.out.trans (hb.mono BW.out.size))
          clear hb
          go_wp2
          go_roundg (gk - 1)
          case measure => exact hg1
          case rel => exact ⟨k + 1, by go_num, by omega, BX.out⟩
        · have hkl : k = lm := by omega
          clear cnw hbnw CM
          obtain ⟨u18, hu⟩ : ∃ x, x = wr := ⟨_, rfl⟩
          subst hu
          have hkk : lm ≤ k := by omega
          clear hkl
          have CN2 := Lib.hid (CN.out.next BW.out)
          have cn18 := (BW.out.cell (p := ⟨bn, on + i', none⟩) hbnc).trans cnc
          have hbn18 : bn < u18.heap.size := Nat.lt_of_lt_of_le hbnc BW.out.size
          clear CN BW cnc hbnc CH HLM NM
          obtain ⟨li, hli⟩ : ∃ li, c'.ifaces.length = li := ⟨_, rfl⟩
          have n2 : u18.cell? ⟨x14, 2, none⟩ = some (.slice ai li ci) := by rw [← hli]; exact kcells_of CN2.out.box 2
          have hx14 := lt_of_block CN2.out.box
          rw [hli] at hcapi hmaxi
          have HLI := Lib.hid hli
          clear hli
          go_wp2
          go_loopg [18] li (fun g iv wx => ∃ m : Nat, iv = .int .i64 m ∧ m + g = li ∧ Below u18.heap.size u18 wx)
          case atStart => exact ⟨0, rfl, by omega, Below.refl _ _⟩
          case round =>
            obtain ⟨m, rfl, hmg, hb⟩ := hrel
            have BW := Lib.hid hb
            have cn := (hb.cell (p := ⟨bn, on + i', none⟩) hbn18).trans cn18
            have hbnw : bn < wr.heap.size := Nat.lt_of_lt_of_le hbn18 hb.size
            have n2w := (hb.cell (p := ⟨x14, 2, none⟩) hx14).trans n2
            have hx14w : x14 < wr.heap.size := Nat.lt_of_lt_of_le hx14 hb.size
            have CM := Lib.hid (CN2.out.next hb)
            clear hb
            by_cases hm : m < li
            · obtain ⟨nm, hnm⟩ : ∃ nm, c'.ifaces[m]? = some nm := ⟨_, List.getElem?_eq_getElem (by rw [HLI.out]; exact hm)⟩
              obtain ⟨x, d, hx, hd, hdn, hdi, hsu⟩ := ifc_seen CM.out.cl.ht.good HC.out (List.mem_of_getElem? hnm)
              have hir := CM.out.ir
              rw [HLI.out] at hir
              obtain ⟨bi, oi, t, rfl, hbi, ck, hts, htz⟩ := hir.at_ hnm
              have hbiw : bi < wr.heap.size := Nat.lt_of_lt_of_le hbi CM.out.bi
              have HTS := Lib.hid hts
              have SU := Lib.hid hsu
              have HX := Lib.hid hx
              have HD := Lib.hid hd
              have HDI := Lib.hid hdi
              clear hts hsu hx hd hdi hdn hnm hir
              have hg1 : gk - 1 < gk := by omega
              go_upto_region 26 with fail
              go_cut [19, 20] (fun va vb wx => ∃ y n5 n6 vi ab ow2 at5, va = .pointer (some ⟨y, 0, none⟩) ∧ vb = .bool true ∧ Below wr.heap.size wr wx ∧ wx.heap[y]? = some (.cells #[.string n5, .string n6, vi, .bool true, .bool ab, .bool ow2, .int .i64 at5] 47 (0, 0)))
              case first => as_aux_lemma =>
                go_wp2_with fail
                refine (Find_any CM.out.cl.ht t htz).mono ?_
                rintro e w1 ⟨ha, b1⟩
                rcases ha with ⟨h0, _⟩ | ⟨x2, d2, k2, ifn2, hx2, hd2, hnm2, hifr2, rfl⟩
                · rw [HTS.out, HX.out] at h0; cases h0
                rw [HTS.out, HX.out] at hx2
                cases hx2
                rw [HD.out] at hd2
                cases hd2
                rw [HDI.out]
                have B1 := Lib.hid b1
                obtain ⟨ai2, ci2, rfl, _, _⟩ := hifr2.length
                clear hnm2 hifr2 b1
                go_wp2
                go_meet
                case rel => exact ⟨_, _, _, _, _, _, _, rfl, rfl, B1.out.alloc B1.out.size _, hheap_new _ _⟩
              obtain ⟨y, n5, n6, vi, ab, ow2, at5, rfl, rfl, hb, hy⟩ := hcut
              obtain ⟨u26, hu⟩ : ∃ x, x = wc := ⟨_, rfl⟩
              subst hu
              have BY := Lib.hid (BW.out.trans (hb.mono BW.out.size))
              have CY := Lib.hid (CM.out.next hb)
              have cny := (hb.cell (p := ⟨bn, on + i', none⟩) hbnw).trans cn
              have hbny : bn < u26.heap.size := Nat.lt_of_lt_of_le hbnw hb.size
              have n2y := (hb.cell (p := ⟨x14, 2, none⟩) hx14w).trans n2w
              have hx14y : x14 < u26.heap.size := Nat.lt_of_lt_of_le hx14w hb.size
              have cky := (hb.cell (p := ⟨bi, oi + m, none⟩) hbiw).trans ck
              have hbiy : bi < u26.heap.size := Nat.lt_of_lt_of_le hbiw hb.size
              have n3y : u26.cell? ⟨y, 3, none⟩ = some (.bool true) := kcells_of hy 3
              have hyy := lt_of_block hy
              clear hb hy cn hbnw n2w hx14w ck hbiw hbi
              go_upto_region 27 with fail
              go_cut [179] (fun v wx => v = .bool false ∧ Below u26.heap.size u26 wx)
              case first => as_aux_lemma =>
                have T0 := (Below.refl u26.heap.size u26).drew
                refine wp_region_held_drew (S := fun V => Below u26.heap.size u26 V) (by kernel_rfl) T0 (fun hS0 => ?_)
                refine wpAnyH_take (i := 0) (oi := ({ dst := some 157, op := Op.move (Operand.tmp 20), type := 4, pos := "more.go:85", after := #[], guard := none } : Oper)) (v := ?av51) rfl (by kernel_rfl) (by kernel_rfl) (by kernel_rfl) (fun _ _ _ h => h) (Or.inl ⟨by rfl, ?ay51⟩) T0 ?_
                case ay51 => (intro V hSw; go_simp; try with_reducible rfl)
                try simp only [Act.put, List.setIfInBounds_toArray, List.set_cons_zero, List.set_cons_succ]
                refine wpAnyH_take (i := 1) (oi := ({ dst := some 158, op := Op.unOp UnOp.not 4 (Operand.tmp 157), type := 4, pos := "more.go:85", after := #[{ on := 0, ground := Ground.data }], guard := none } : Oper)) (v := ?av52) rfl (by kernel_rfl) (by kernel_rfl) (by kernel_rfl) (fun _ _ _ h => h) (Or.inl ⟨by rfl, ?ay52⟩) T0 ?_
                case ay52 => (intro V hSw; go_simp; try with_reducible rfl)
                try simp only [Act.put, List.setIfInBounds_toArray, List.set_cons_zero, List.set_cons_succ]
                refine wpAnyH_take (i := 2) (oi := ({ dst := some 159, op := Op.move (Operand.tmp 158), type := 4, pos := "more.go:85", after := #[{ on := 1, ground := Ground.data }], guard := none } : Oper)) (v := ?av53) rfl (by kernel_rfl) (by kernel_rfl) (by kernel_rfl) (fun _ _ _ h => h) (Or.inl ⟨by rfl, ?ay53⟩) T0 ?_
                case ay53 => (intro V hSw; go_simp; try with_reducible rfl)
                try simp only [Act.put, List.setIfInBounds_toArray, List.set_cons_zero, List.set_cons_succ]
                refine wpAnyH_take (i := 3) (oi := ({ dst := some 160, op := Op.fieldAddr 47 (Operand.tmp 19) 3, type := 0, pos := "more.go:85", after := #[{ on := 2, ground := Ground.guard }], guard := some (2, false) } : Oper)) (v := ?av54) rfl (by kernel_rfl) (by kernel_rfl) (by kernel_rfl) (fun _ _ _ h => h) (Or.inl ⟨by rfl, ?ay54⟩) T0 ?_
                case ay54 => (intro V hSw; go_simp; try with_reducible rfl)
                try simp only [Act.put, List.setIfInBounds_toArray, List.set_cons_zero, List.set_cons_succ]
                refine wpAnyH_take (i := 4) (oi := ({ dst := some 161, op := Op.load 4 (Operand.tmp 160), type := 4, pos := "more.go:85", after := #[{ on := 3, ground := Ground.data }, { on := 2, ground := Ground.guard }], guard := some (2, false) } : Oper)) (v := ?av55) rfl (by kernel_rfl) (by kernel_rfl) (by kernel_rfl) (fun _ _ _ h => h) (Or.inl ⟨by rfl, ?ay55⟩) T0 ?_
                case ay55 => (intro V hSw; have e1 := (hSw.cell (p := ⟨y, 3, none⟩) hyy).trans n3y; go_simp; try with_reducible rfl)
                try simp only [Act.put, List.setIfInBounds_toArray, List.set_cons_zero, List.set_cons_succ]
                refine wpAnyH_take (i := 5) (oi := ({ dst := some 162, op := Op.unOp UnOp.not 4 (Operand.tmp 161), type := 4, pos := "more.go:85", after := #[{ on := 4, ground := Ground.data }, { on := 2, ground := Ground.guard }], guard := some (2, false) } : Oper)) (v := ?av56) rfl (by kernel_rfl) (by kernel_rfl) (by kernel_rfl) (fun _ _ _ h => h) (Or.inl ⟨by rfl, ?ay56⟩) T0 ?_
                case ay56 => (intro V hSw; go_simp; try with_reducible rfl)
                try simp only [Act.put, List.setIfInBounds_toArray, List.set_cons_zero, List.set_cons_succ]
                refine wpAnyH_take (i := 6) (oi := ({ dst := some 163, op := Op.pick (Operand.tmp 159) (Operand.const (Value.bool true)) (Operand.tmp 162), type := 4, pos := "more.go:85", after := #[{ on := 2, ground := Ground.data }, { on := 5, ground := Ground.data }], guard := none } : Oper)) (v := ?av57) rfl (by kernel_rfl) (by kernel_rfl) (by kernel_rfl) (fun _ _ _ h => h) (Or.inl ⟨by rfl, ?ay57⟩) T0 ?_
                case ay57 => (intro V hSw; go_simp; try with_reducible rfl)
                try simp only [Act.put, List.setIfInBounds_toArray, List.set_cons_zero, List.set_cons_succ]
                refine wpAnyH_take (i := 7) (oi := ({ dst := some 164, op := Op.move (Operand.tmp 163), type := 4, pos := "more.go:85", after := #[{ on := 6, ground := Ground.data }, { on := 2, ground := Ground.chain }], guard := none } : Oper)) (v := ?av58) rfl (by kernel_rfl) (by kernel_rfl) (by kernel_rfl) (fun _ _ _ h => h) (Or.inl ⟨by rfl, ?ay58⟩) T0 ?_
                case ay58 => (intro V hSw; go_simp; try with_reducible rfl)
                try simp only [Act.put, List.setIfInBounds_toArray, List.set_cons_zero, List.set_cons_succ]
                refine wpAnyH_take (i := 8) (oi := ({ dst := some 165, op := Op.move (Operand.tmp 9), type := 32, pos := "more.go:85", after := #[{ on := 7, ground := Ground.guard }], guard := some (7, false) } : Oper)) (v := ?av59) rfl (by kernel_rfl) (by kernel_rfl) (by kernel_rfl) (fun _ _ _ h => h) (Or.inl ⟨by rfl, ?ay59⟩) T0 ?_
                case ay59 => (intro V hSw; go_simp; try with_reducible rfl)
                try simp only [Act.put, List.setIfInBounds_toArray, List.set_cons_zero, List.set_cons_succ]
                refine wpAnyH_take (i := 9) (oi := ({ dst := some 166, op := Op.move (Operand.tmp 12), type := 45, pos := "more.go:85", after := #[{ on := 7, ground := Ground.guard }], guard := some (7, false) } : Oper)) (v := ?av60) rfl (by kernel_rfl) (by kernel_rfl) (by kernel_rfl) (fun _ _ _ h => h) (Or.inl ⟨by rfl, ?ay60⟩) T0 ?_
                case ay60 => (intro V hSw; go_simp; try with_reducible rfl)
                try simp only [Act.put, List.setIfInBounds_toArray, List.set_cons_zero, List.set_cons_succ]
                refine wpAnyH_take (i := 10) (oi := ({ dst := some 167, op := Op.move (Operand.tmp 13), type := 3, pos := "more.go:85", after := #[{ on := 7, ground := Ground.guard }], guard := some (7, false) } : Oper)) (v := ?av61) rfl (by kernel_rfl) (by kernel_rfl) (by kernel_rfl) (fun _ _ _ h => h) (Or.inl ⟨by rfl, ?ay61⟩) T0 ?_
                case ay61 => (intro V hSw; go_simp; try with_reducible rfl)
                try simp only [Act.put, List.setIfInBounds_toArray, List.set_cons_zero, List.set_cons_succ]
                refine wpAnyH_take (i := 11) (oi := ({ dst := some 168, op := Op.indexAddr 45 (Operand.tmp 166) (Operand.tmp 167), type := 0, pos := "more.go:85", after := #[{ on := 9, ground := Ground.data }, { on := 10, ground := Ground.data }, { on := 7, ground := Ground.guard }], guard := some (7, false) } : Oper)) (v := ?av62) rfl (by kernel_rfl) (by kernel_rfl) (by kernel_rfl) (fun _ _ _ h => h) (Or.inl ⟨by rfl, ?ay62⟩) T0 ?_
                case ay62 => (intro V hSw; go_simp; try with_reducible rfl)
                try simp only [Act.put, List.setIfInBounds_toArray, List.set_cons_zero, List.set_cons_succ]
                refine wpAnyH_take (i := 12) (oi := ({ dst := some 169, op := Op.load 9 (Operand.tmp 168), type := 9, pos := "more.go:85", after := #[{ on := 11, ground := Ground.data }, { on := 7, ground := Ground.guard }], guard := some (7, false) } : Oper)) (v := ?av63) rfl (by kernel_rfl) (by kernel_rfl) (by kernel_rfl) (fun _ _ _ h => h) (Or.inl ⟨by rfl, ?ay63⟩) T0 ?_
                case ay63 => (intro V hSw; have e1 := (hSw.cell (p := ⟨bn, on + i', none⟩) hbny).trans cny; go_simp; try with_reducible rfl)
                try simp only [Act.put, List.setIfInBounds_toArray, List.set_cons_zero, List.set_cons_succ]
                refine wpAnyH_take (i := 14) (oi := ({ dst := some 171, op := Op.fieldAddr 47 (Operand.tmp 14) 2, type := 0, pos := "more.go:85", after := #[{ on := 7, ground := Ground.guard }], guard := some (7, false) } : Oper)) (v := ?av64) rfl (by kernel_rfl) (by kernel_rfl) (by kernel_rfl) (fun _ _ _ h => h) (Or.inl ⟨by rfl, ?ay64⟩) T0 ?_
                case ay64 => (intro V hSw; go_simp; try with_reducible rfl)
                try simp only [Act.put, List.setIfInBounds_toArray, List.set_cons_zero, List.set_cons_succ]
                refine wpAnyH_take (i := 15) (oi := ({ dst := some 172, op := Op.load 45 (Operand.tmp 171), type := 45, pos := "more.go:85", after := #[{ on := 14, ground := Ground.data }, { on := 7, ground := Ground.guard }], guard := some (7, false) } : Oper)) (v := ?av65) rfl (by kernel_rfl) (by kernel_rfl) (by kernel_rfl) (fun _ _ _ h => h) (Or.inl ⟨by rfl, ?ay65⟩) T0 ?_
                case ay65 => (intro V hSw; have e1 := (hSw.cell (p := ⟨x14, 2, none⟩) hx14y).trans n2y; go_simp; try with_reducible rfl)
                try simp only [Act.put, List.setIfInBounds_toArray, List.set_cons_zero, List.set_cons_succ]
                refine wpAnyH_take (i := 16) (oi := ({ dst := some 173, op := Op.move (Operand.tmp 18), type := 3, pos := "more.go:85", after := #[{ on := 7, ground := Ground.guard }], guard := some (7, false) } : Oper)) (v := ?av66) rfl (by kernel_rfl) (by kernel_rfl) (by kernel_rfl) (fun _ _ _ h => h) (Or.inl ⟨by rfl, ?ay66⟩) T0 ?_
                case ay66 => (intro V hSw; go_simp; try with_reducible rfl)
                try simp only [Act.put, List.setIfInBounds_toArray, List.set_cons_zero, List.set_cons_succ]
                refine wpAnyH_take (i := 17) (oi := ({ dst := some 174, op := Op.indexAddr 45 (Operand.tmp 172) (Operand.tmp 173), type := 0, pos := "more.go:85", after := #[{ on := 15, ground := Ground.data }, { on := 16, ground := Ground.data }, { on := 7, ground := Ground.guard }], guard := some (7, false) } : Oper)) (v := ?av67) rfl (by kernel_rfl) (by kernel_rfl) (by kernel_rfl) (fun _ _ _ h => h) (Or.inl ⟨by rfl, ?ay67⟩) T0 ?_
                case ay67 => (intro V hSw; go_simp; try with_reducible rfl)
                try simp only [Act.put, List.setIfInBounds_toArray, List.set_cons_zero, List.set_cons_succ]
                refine wpAnyH_take (i := 18) (oi := ({ dst := some 175, op := Op.load 9 (Operand.tmp 174), type := 9, pos := "more.go:85", after := #[{ on := 17, ground := Ground.data }, { on := 7, ground := Ground.guard }], guard := some (7, false) } : Oper)) (v := ?av68) rfl (by kernel_rfl) (by kernel_rfl) (by kernel_rfl) (fun _ _ _ h => h) (Or.inl ⟨by rfl, ?ay68⟩) T0 ?_
                case ay68 => (intro V hSw; have e1 := (hSw.cell (p := ⟨bi, oi + m, none⟩) hbiy).trans cky; go_simp; try with_reducible rfl)
                try simp only [Act.put, List.setIfInBounds_toArray, List.set_cons_zero, List.set_cons_succ]
                refine wpAnyH_ready (rs := [13]) (by kernel_rfl) (by simp) ?_
                refine (AllReadyH.cons (o := _) rfl (fun K hK => ?_) AllReadyH.nil)
                go_simp
                go_at_call 32
                refine (class_any _ _).mono ?_
                rintro e W69 ⟨rfl, hb69⟩
                have T69 := T0.trans (hb69.mono T0.size)
                try go_wp2_with fail
                refine hK.out _ _ T69 (fun hS69 => ?_)
                clear hK K
                try simp only [Act.put, List.setIfInBounds_toArray, List.set_cons_zero, List.set_cons_succ]
                refine wpAnyH_ready (rs := [19]) (by kernel_rfl) (by simp) ?_
                refine (AllReadyH.cons (o := _) rfl (fun K hK => ?_) AllReadyH.nil)
                go_simp
                go_at_call 32
                refine (class_any _ _).mono ?_
                rintro e W70 ⟨rfl, hb70⟩
                have T70 := T69.trans (hb70.mono T69.size)
                try go_wp2_with fail
                refine hK.out _ _ T70 (fun hS70 => ?_)
                clear hK K
                try simp only [Act.put, List.setIfInBounds_toArray, List.set_cons_zero, List.set_cons_succ]
                refine wpAnyH_ready (rs := [20]) (by kernel_rfl) (by simp) ?_
                refine (AllReadyH.cons (o := _) rfl (fun K hK => ?_) AllReadyH.nil)
                go_simp
                go_at_call 23
                refine (Sub_any (CY.out.next T70).cl.ht (by exact hz) (by exact htz)).mono ?_
                rintro e W71 ⟨r71, rfl, hr71, hb71⟩
                obtain rfl : r71 = true := hr71.2 (by rw [HS.out, HTS.out]; exact SU.out)
                have T71 := T70.trans (hb71.mono T70.size)
                clear hr71
                try go_wp2_with fail
                refine hK.out _ _ T71 (fun hS71 => ?_)
                clear hK K
                try simp only [Act.put, List.setIfInBounds_toArray, List.set_cons_zero, List.set_cons_succ]
                refine wpAnyH_take (i := 21) (oi := ({ dst := some 178, op := Op.unOp UnOp.not 4 (Operand.tmp 177), type := 4, pos := "more.go:85", after := #[{ on := 20, ground := Ground.data }, { on := 7, ground := Ground.guard }], guard := some (7, false) } : Oper)) (v := ?av72) rfl (by kernel_rfl) (by kernel_rfl) (by kernel_rfl) (fun _ _ _ h => h) (Or.inl ⟨by rfl, ?ay72⟩) T71 ?_
                case ay72 => (intro V hSw; go_simp; try with_reducible rfl)
                try simp only [Act.put, List.setIfInBounds_toArray, List.set_cons_zero, List.set_cons_succ]
                refine wpAnyH_take (i := 22) (oi := ({ dst := some 179, op := Op.pick (Operand.tmp 164) (Operand.const (Value.bool true)) (Operand.tmp 178), type := 4, pos := "more.go:85", after := #[{ on := 7, ground := Ground.data }, { on := 21, ground := Ground.data }], guard := none } : Oper)) (v := ?av73) rfl (by kernel_rfl) (by kernel_rfl) (by kernel_rfl) (fun _ _ _ h => h) (Or.inl ⟨by rfl, ?ay73⟩) T71 ?_
                case ay73 => (intro V hSw; go_simp; try with_reducible rfl)
                try simp only [Act.put, List.setIfInBounds_toArray, List.set_cons_zero, List.set_cons_succ]
                refine wpAnyH_done (by kernel_rfl) ?_ _
                try go_wp2
                go_meet
                case rel => exact ⟨rfl, T71⟩
              obtain ⟨rfl, hb⟩ := hcut
              have BX := Lib.hid (BY.out.trans (hb.mono BY.out.size))
              clear hb
              go_wp2
              go_roundg (gk - 1)
              case measure => exact hg1
              case rel => exact ⟨m + 1, by go_num, by omega, BX.out⟩
            · have hml : m = li := by omega
              have BZ := Lib.hid (CM.out.cl)
              have hg2 : g1 - 1 < g1 := by omega
              clear cn hbnw CM hml
              have hmm : li ≤ m := by omega
              go_wp2
              go_roundg (g1 - 1)
              case measure => exact hg2
              case rel => exact ⟨i' + 1, by go_num, by omega, BZ.out⟩
    · have hjn : j = n := by omega
      go_wp2
      go_ret
      exact ⟨rfl, C.out.below⟩
end Go.Proofs.YtmaknddlgppinaaGreatDoor
