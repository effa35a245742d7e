/-
  WALK of HierOrderless.
-/
import Derived.Test.YtmaknddlgppinaaGreatDoorKj
import Derived.Test.YtmaknddlgppinaaGreatDoorKgp
import Derived.Test.YtmaknddlgppinaaGreatDoorX29
import Derived.Deep.QuietTactic
set_option linter.unusedVariables false
set_option linter.unusedSimpArgs false
namespace Go.Proofs.YtmaknddlgppinaaGreatDoor
open Go.RowKit

set_option maxRecDepth 1000000 in
set_option maxHeartbeats 100000000 in
theorem orderless_any {w : World} (hN : Blt w) {B0 : Nat} (rs : List Rw) (at_ : Int) (l : List Int) (v v3 : Value) (hr : RawsRow B0 w v rs) (ha : B64 at_) (hi : IRow B0 w v3 l) (hl : ∀ z ∈ l, B64 z) (hB : B0 ≤ w.heap.size) :
    Calls Tryz.prog 7 #[v, .int .i64 at_, v3] w fun e w' => e = .returned (.bool true) ∧ Below w.heap.size w w' := by
  have HN := Lib.hid hN
  have HR := Lib.hid hr
  have HI := Lib.hid hi
  have HL := Lib.hid hl
  have HA := Lib.hid ha
  clear hN hr hi hl ha
  go_enter Tryz.func7, Tryz.ntmps7
  go_wp2_with fail
  refine (shown_any HN.out).mono ?_
  rintro e w1 ⟨rfl, b1⟩
  have N1 := Lib.hid (HN.out.below b1)
  have R1 := Lib.hid (HR.out.keep (fun p hp => b1.cell (Nat.lt_of_lt_of_le hp hB)))
  have hB1 : B0 ≤ w1.heap.size := Nat.le_trans hB b1.size
  have B1 := Lib.hid b1
  clear b1 HN
  go_wp2_with fail
  refine (files_any rs v w1 R1.out hB1).mono ?_
  rintro e w2 ⟨vf, rfl, own, b2⟩
  have F2 := Lib.hid own.row
  have N2 := Lib.hid (N1.out.below b2)
  have hB2 : B0 ≤ w2.heap.size := Nat.le_trans hB1 b2.size
  have B2 := Lib.hid (B1.out.trans (b2.mono B1.out.size))
  clear own b2 N1 R1 B1
  go_wp2_with fail
  refine (New_any N2.out (filesR rs) vf F2.out (Nat.le_refl _) (filesR_texts rs)).mono ?_
  rintro e w3 ⟨hans, b3⟩
  have hB3 : B0 ≤ w3.heap.size := Nat.le_trans hB2 b3.size
  have B3 := Lib.hid (B2.out.trans (b3.mono B2.out.size))
  have N3 := Lib.hid (N2.out.below b3)
  have R3 := Lib.hid (HR.out.keep (fun p hp => B3.out.cell (Nat.lt_of_lt_of_le hp hB)))
  clear b3 N2 F2 B2 HR
  rcases hans with ⟨x, a, ho, rfl⟩ | ⟨ds, nb, mb, A, cap, cl, sl, S, ho, rfl, ht⟩
  · have HO := Lib.hid ho
    have hx := open_err ho
    have hx1 : (((x : Nat) : Int) == 0) = false := by simp; omega
    have hx2 : (((x : Nat) : Int) != 0) = true := by simp; omega
    clear ho hx
    go_wp2_with fail
    refine (turned_any rs at_ v w3 R3.out hB3 HA.out).mono ?_
    rintro e w4 ⟨v', rs', rfl, hr4, b4, htu⟩
    have R4 := Lib.hid hr4
    have TU := Lib.hid (turn_perm htu)
    have N4 := Lib.hid (N3.out.below b4)
    have B4 := Lib.hid b4
    clear hr4 b4 htu
    go_wp2_with fail
    refine (files_any rs' v' w4 R4.out (Nat.le_refl _)).mono ?_
    rintro e w5 ⟨vg, rfl, own, b5⟩
    have F5 := Lib.hid own.row
    have N5 := Lib.hid (N4.out.below b5)
    have B5 := Lib.hid (B4.out.trans (b5.mono B4.out.size))
    clear own b5 N4 R4 B4
    go_wp2_with fail
    refine (New_any N5.out (filesR rs') vg F5.out (Nat.le_refl _) (filesR_texts rs')).mono ?_
    rintro e w6 ⟨hans, b6⟩
    have B36 := Lib.hid (B5.out.trans (b6.mono B5.out.size))
    have B6 := Lib.hid (B3.out.trans (B36.out.mono B3.out.size))
    clear b6 N5 F5 B5
    rcases hans with ⟨x', a', ho', rfl⟩ | ⟨es, nb2, mb2, A2, cap2, cl2, sl2, S2, ho', rfl, ht'⟩
    · have hx' := open_err ho'
      have hx3 : (((x' : Nat) : Int) == 0) = false := by simp; omega
      have hx4 : (((x' : Nat) : Int) != 0) = true := by simp; omega
      clear ho' hx' HO
      go_wp2
      go_ret
      exact ⟨rfl, B6.out⟩
    · exfalso
      obtain ⟨ds, h, _⟩ := open_perm good_built TU.out.symm ho'
      rw [HO.out] at h
      cases h
  have HO := Lib.hid ho
  have HT3 := Lib.hid ht
  clear ho ht
  go_wp2_with fail
  refine (turned_any rs at_ v w3 R3.out hB3 HA.out).mono ?_
  rintro e w4 ⟨v', rs', rfl, hr4, b4, htu⟩
  have R4 := Lib.hid hr4
  have TU := Lib.hid (turn_perm htu)
  have N4 := Lib.hid (N3.out.below b4)
  have B4 := Lib.hid b4
  clear hr4 b4 htu
  go_wp2_with fail
  refine (files_any rs' v' w4 R4.out (Nat.le_refl _)).mono ?_
  rintro e w5 ⟨vg, rfl, own, b5⟩
  have F5 := Lib.hid own.row
  have N5 := Lib.hid (N4.out.below b5)
  have B5 := Lib.hid (B4.out.trans (b5.mono B4.out.size))
  clear own b5 N4 R4 B4
  go_wp2_with fail
  refine (New_any N5.out (filesR rs') vg F5.out (Nat.le_refl _) (filesR_texts rs')).mono ?_
  rintro e w6 ⟨hans, b6⟩
  have B36 := Lib.hid (B5.out.trans (b6.mono B5.out.size))
  have B6 := Lib.hid (B3.out.trans (B36.out.mono B3.out.size))
  clear b6 N5 F5 B5
  rcases hans with ⟨x', a', ho', rfl⟩ | ⟨es, nb2, mb2, A2, cap2, cl2, sl2, S2, ho', rfl, ht'⟩
  · exfalso
    obtain ⟨es, h, _⟩ := open_perm good_built TU.out HO.out
    rw [ho'] at h
    cases h
  have hal : Alike ds es ∧ Alike es ds := by
    obtain ⟨es', h, h1, h2⟩ := open_perm good_built TU.out HO.out
    rw [ho'] at h
    cases h
    exact ⟨h1, h2⟩
  have AL := Lib.hid hal
  have hop := open_raw good_built HO.out
  have hop2 := open_raw good_built ho'
  have GD := Lib.hid hop.1
  have GE := Lib.hid hop2.1
  have hlen : es.length = ds.length := by
    have h1 := TU.out.length_eq
    simp only [List.length_take] at h1
    have h2 := hop.2.2
    have h3 := hop2.2.2
    omega
  have hown : ∀ i j : Nat, At2 ds es i j → decide (builtP.length ≤ i) = decide (builtP.length ≤ j) := fun _ _ h => own_same hop2.1 hop.1 hop.2.1 hop2.2.1 h
  have OWN := Lib.hid hown
  have hd100 : ds.length ≤ 100 := by
    have := hop.2.2
    have : builtP.length = 14 := rfl
    omega
  have HT6 := Lib.hid (HT3.out.below (B36.out.mono HT3.out.hB))
  have HTU6 := Lib.hid ht'
  clear hal hop hop2 hown HO HT3 ht' ho' TU B36 N3 R3 B3
  generalize builtP.length = ow at HT6 HTU6 OWN
  go_wp2_with fail
  refine (Names_any HT6.out).mono ?_
  rintro e w8 ⟨vn, rfl, own, b8⟩
  obtain ⟨an, cn8, rfl⟩ := own.form
  rw [List.length_map] at own ⊢
  obtain ⟨n, hn⟩ : ∃ n, ds.length = n := ⟨_, rfl⟩
  have HNN := Lib.hid hn
  rw [hn] at own hd100 hlen ⊢
  have HLE := Lib.hid hlen
  clear hn hlen
  have NR := Lib.hid own
  have B68 := Lib.hid b8
  clear own b8
  go_wp2_with fail
  refine (Names_any (HTU6.out.below (B68.out.mono HTU6.out.hB))).mono ?_
  rintro e U ⟨vm, rfl, own, b9⟩
  obtain ⟨am, cm8, rfl⟩ := own.form
  rw [List.length_map, HLE.out]
  have B69 := Lib.hid (B68.out.trans (b9.mono B68.out.size))
  have HT := Lib.hid (HT6.out.below (B69.out.mono HT6.out.hB))
  have HTU := Lib.hid (HTU6.out.below (B69.out.mono HTU6.out.hB))
  have BW := Lib.hid (B6.out.trans (B69.out.mono B6.out.size))
  have NA := Lib.hid (NR.out.row.keep (fun p hp => b9.cell hp))
  have hs8 := b9.size
  clear own b9 B69 B68 HT6 HTU6 B6 NR
  go_wp2
  go_loopg [15] n (fun g iv wx => ∃ i : Nat, iv = .int .i64 i ∧ i + g = n ∧ Below U.heap.size U wx)
  case atStart => exact ⟨0, rfl, by omega, Below.refl _ _⟩
  case round =>
    obtain ⟨i, rfl, hig, hb⟩ := hrel
    have X := Lib.hid hb
    clear hb
    by_cases hin : i < n
    · obtain ⟨V0, hV0⟩ : ∃ x, x = wr := ⟨_, rfl⟩
      subst hV0
      obtain ⟨c, hc⟩ : ∃ c, ds[i]? = some c := ⟨_, List.getElem?_eq_getElem (by rw [HNN.out]; exact hin)⟩
      obtain ⟨j, d, hj, hd, e1, e2, e3, e4, e5, hat⟩ := alike_at GD.out GE.out AL.out.1 AL.out.2 hc
      have HC := Lib.hid hc
      have HJ := Lib.hid hj
      have HD := Lib.hid hd
      have HE := Lib.hid (And.intro e2 (And.intro e3 (And.intro e4 e5)))
      have HAT := Lib.hid hat
      obtain ⟨bn, on, s, rfl, hbn, cn0, hs, hz⟩ := NA.out.at_ (x := c.name) (by rw [List.getElem?_map, hc]; rfl)
      have hbnU : bn < U.heap.size := Nat.lt_of_lt_of_le hbn hs8
      have CN := Lib.hid cn0
      have HS := Lib.hid hs
      have hg1 : gk - 1 < gk := by omega
      clear hc hj hd e1 e2 e3 e4 e5 hat hs cn0 hbn
      go_upto_region 16 with fail
      go_cut [16, 17] (fun va vb wx => ∃ y n5 n6 ai ci i6, va = .pointer (some ⟨y, 0, none⟩) ∧ vb = .bool true ∧ Below V0.heap.size V0 wx ∧ wx.heap[y]? = some (.cells #[.string n5, .string n6, .slice ai c.ifaces.length ci, .bool c.iface, .bool c.abs, .bool (decide (ow ≤ i)), .int .i64 i6] 47 (0, 0)) ∧ n6.data.toList = c.super ∧ SRow wx.heap.size wx (.slice ai c.ifaces.length ci) c.ifaces)
      case first => as_aux_lemma =>
        have e0 := (X.out.cell (p := ⟨bn, on + i, none⟩) hbnU).trans CN.out
        have hbnw : bn < V0.heap.size := Nat.lt_of_lt_of_le hbnU X.out.size
        go_wp2_with fail
        refine (Find_any (HT.out.below (X.out.mono HT.out.hB)) s hz).mono ?_
        rintro e x1 ⟨ha, b1⟩
        rcases ha with ⟨h0, _⟩ | ⟨i2, c2, k2, ifn2, hi2, hc2, hnm2, hifr2, rfl⟩
        · rw [HS.out, ix_of GD.out.apart HC.out] at h0; cases h0
        rw [HS.out, ix_of GD.out.apart HC.out] at hi2
        cases hi2
        rw [HC.out] at hc2
        cases hc2
        obtain ⟨ai2, ci2, rfl, _, _⟩ := hifr2.length
        have B1 := Lib.hid b1
        have SPR := Lib.hid hnm2.sp
        have IFR := Lib.hid hifr2
        clear hnm2 hifr2 b1
        obtain ⟨li, hli⟩ : ∃ li, c.ifaces.length = li := ⟨_, rfl⟩
        have HLI := Lib.hid hli
        rw [hli]
        clear hli
        go_wp2
        go_meet
        case rel =>
          rw [← HLI.out]
          exact ⟨_, _, _, _, _, _, rfl, rfl, B1.out.alloc B1.out.size _, hheap_new _ _, SPR.out, (IFR.out.keep (fun p hp => Below.cell ((Below.refl x1.heap.size x1).alloc (Nat.le_refl _) _) hp)).more (by simp)⟩
      obtain ⟨y1, n51, n61, ai1, ci1, i61, rfl, rfl, hb, hy1, hsp1, hif1⟩ := hcut
      obtain ⟨V1x, hV⟩ : ∃ x, x = wc := ⟨_, rfl⟩
      subst hV
      replace X := Lib.hid (X.out.trans (hb.mono X.out.size))
      have Y1 := Lib.hid hy1
      have SP1 := Lib.hid hsp1
      have IF1 := Lib.hid hif1
      have hws1 := Nat.le_refl V1x.heap.size
      clear hy1 hsp1 hif1
      clear hb
      go_upto_region 17 with fail
      go_cut [18, 19] (fun va vb wx => ∃ y n5 n6 ai ci i6, va = .pointer (some ⟨y, 0, none⟩) ∧ vb = .bool true ∧ Below V1x.heap.size V1x wx ∧ wx.heap[y]? = some (.cells #[.string n5, .string n6, .slice ai c.ifaces.length ci, .bool c.iface, .bool c.abs, .bool (decide (ow ≤ i)), .int .i64 i6] 47 (0, 0)) ∧ n6.data.toList = c.super ∧ SRow wx.heap.size wx (.slice ai c.ifaces.length ci) c.ifaces)
      case first => as_aux_lemma =>
        have e0 := (X.out.cell (p := ⟨bn, on + i, none⟩) hbnU).trans CN.out
        have hbnw : bn < V1x.heap.size := Nat.lt_of_lt_of_le hbnU X.out.size
        go_wp2_with fail
        refine (Find_any (HTU.out.below (X.out.mono HTU.out.hB)) s hz).mono ?_
        rintro e x1 ⟨ha, b1⟩
        rcases ha with ⟨h0, _⟩ | ⟨i2, c2, k2, ifn2, hi2, hc2, hnm2, hifr2, rfl⟩
        · rw [HS.out, HJ.out] at h0; cases h0
        rw [HS.out, HJ.out] at hi2
        cases hi2
        rw [HD.out] at hc2
        cases hc2
        obtain ⟨f1, f2, f3, f4⟩ := HE.out
        rw [f2] at hifr2
        rw [f3, f4, ← OWN.out _ _ HAT.out]
        obtain ⟨ai2, ci2, rfl, _, _⟩ := hifr2.length
        have B1 := Lib.hid b1
        have SPR := Lib.hid hnm2.sp
        have IFR := Lib.hid hifr2
        clear hnm2 hifr2 b1 f1 f2 f3 f4
        obtain ⟨li, hli⟩ : ∃ li, c.ifaces.length = li := ⟨_, rfl⟩
        have HLI := Lib.hid hli
        rw [hli]
        clear hli
        go_wp2
        go_meet
        case rel =>
          rw [← HLI.out]
          exact ⟨_, _, _, _, _, _, rfl, rfl, B1.out.alloc B1.out.size _, hheap_new _ _, (SPR.out.trans HE.out.1), (IFR.out.keep (fun p hp => Below.cell ((Below.refl x1.heap.size x1).alloc (Nat.le_refl _) _) hp)).more (by simp)⟩
      obtain ⟨y2, n52, n62, ai2, ci2, i62, rfl, rfl, hb, hy2, hsp2, hif2⟩ := hcut
      obtain ⟨V2x, hV⟩ : ∃ x, x = wc := ⟨_, rfl⟩
      subst hV
      replace X := Lib.hid (X.out.trans (hb.mono X.out.size))
      replace Y1 := Lib.hid ((hb.block _ (lt_of_block Y1.out)).trans Y1.out)
      have Y2 := Lib.hid hy2
      have SP2 := Lib.hid (bytes_eq (SP1.out.trans hsp2.symm))
      have IF2 := Lib.hid hif2
      have Z := Lib.hid hb
      clear hy2 hsp2 hif2
      clear hb
      have e62 := SP2.out
      subst e62
      clear SP2
      replace IF1 := Lib.hid ((IF1.out.keep (fun p hp => Z.out.cell hp)).more Z.out.size)
      clear Z
      have Z := Lib.hid (Below.refl V2x.heap.size V2x)
      go_upto_region 18 with fail
      go_cut [20] (fun v wx => v = .bool true ∧ Below V2x.heap.size V2x wx)
      case first => as_aux_lemma =>
        have e0 := (X.out.cell (p := ⟨bn, on + i, none⟩) hbnU).trans CN.out
        have hbnw : bn < V2x.heap.size := Nat.lt_of_lt_of_le hbnU X.out.size
        have T0 := (Below.refl V2x.heap.size V2x).drew
        refine wp_region_held_drew (S := fun V => Below V2x.heap.size V2x V) (by kernel_rfl) T0 (fun hS0 => ?_)
        refine wpAnyH_take (i := 0) (oi := ({ dst := some 99, op := Op.move (Operand.tmp 8), type := 32, pos := "more.go:38", after := #[], guard := none } : Oper)) (v := ?av1) rfl (by kernel_rfl) (by kernel_rfl) (by kernel_rfl) (fun _ _ _ h => h) (Or.inl ⟨by rfl, ?ay1⟩) T0 ?_
        case ay1 => (intro V hSw; go_simp; try with_reducible rfl)
        try simp only [Act.put, List.setIfInBounds_toArray, List.set_cons_zero, List.set_cons_succ]
        refine wpAnyH_take (i := 1) (oi := ({ dst := some 100, op := Op.move (Operand.tmp 14), type := 45, pos := "more.go:38", after := #[], guard := none } : Oper)) (v := ?av2) rfl (by kernel_rfl) (by kernel_rfl) (by kernel_rfl) (fun _ _ _ h => h) (Or.inl ⟨by rfl, ?ay2⟩) T0 ?_
        case ay2 => (intro V hSw; go_simp; try with_reducible rfl)
        try simp only [Act.put, List.setIfInBounds_toArray, List.set_cons_zero, List.set_cons_succ]
        refine wpAnyH_take (i := 2) (oi := ({ dst := some 101, op := Op.move (Operand.tmp 15), type := 3, pos := "more.go:38", after := #[], guard := none } : Oper)) (v := ?av3) rfl (by kernel_rfl) (by kernel_rfl) (by kernel_rfl) (fun _ _ _ h => h) (Or.inl ⟨by rfl, ?ay3⟩) T0 ?_
        case ay3 => (intro V hSw; go_simp; try with_reducible rfl)
        try simp only [Act.put, List.setIfInBounds_toArray, List.set_cons_zero, List.set_cons_succ]
        refine wpAnyH_take (i := 3) (oi := ({ dst := some 102, op := Op.indexAddr 45 (Operand.tmp 100) (Operand.tmp 101), type := 0, pos := "more.go:38", after := #[{ on := 1, ground := Ground.data }, { on := 2, ground := Ground.data }], guard := none } : Oper)) (v := ?av4) rfl (by kernel_rfl) (by kernel_rfl) (by kernel_rfl) (fun _ _ _ h => h) (Or.inl ⟨by rfl, ?ay4⟩) T0 ?_
        case ay4 => (intro V hSw; go_simp; try with_reducible rfl)
        try simp only [Act.put, List.setIfInBounds_toArray, List.set_cons_zero, List.set_cons_succ]
        refine wpAnyH_take (i := 4) (oi := ({ dst := some 103, op := Op.load 9 (Operand.tmp 102), type := 9, pos := "more.go:38", after := #[{ on := 3, ground := Ground.data }], guard := none } : Oper)) (v := ?av5) rfl (by kernel_rfl) (by kernel_rfl) (by kernel_rfl) (fun _ _ _ h => h) (Or.inl ⟨by rfl, ?ay5⟩) T0 ?_
        case ay5 => (intro V hSw; have e1 := (hSw.cell (p := ⟨bn, on + i, none⟩) hbnw).trans e0; go_simp; try with_reducible rfl)
        try simp only [Act.put, List.setIfInBounds_toArray, List.set_cons_zero, List.set_cons_succ]
        refine wpAnyH_take (i := 6) (oi := ({ dst := some 105, op := Op.move (Operand.tmp 11), type := 32, pos := "more.go:38", after := #[], guard := none } : Oper)) (v := ?av6) rfl (by kernel_rfl) (by kernel_rfl) (by kernel_rfl) (fun _ _ _ h => h) (Or.inl ⟨by rfl, ?ay6⟩) T0 ?_
        case ay6 => (intro V hSw; go_simp; try with_reducible rfl)
        try simp only [Act.put, List.setIfInBounds_toArray, List.set_cons_zero, List.set_cons_succ]
        refine wpAnyH_take (i := 7) (oi := ({ dst := some 106, op := Op.move (Operand.tmp 14), type := 45, pos := "more.go:38", after := #[], guard := none } : Oper)) (v := ?av7) rfl (by kernel_rfl) (by kernel_rfl) (by kernel_rfl) (fun _ _ _ h => h) (Or.inl ⟨by rfl, ?ay7⟩) T0 ?_
        case ay7 => (intro V hSw; go_simp; try with_reducible rfl)
        try simp only [Act.put, List.setIfInBounds_toArray, List.set_cons_zero, List.set_cons_succ]
        refine wpAnyH_take (i := 8) (oi := ({ dst := some 107, op := Op.move (Operand.tmp 15), type := 3, pos := "more.go:38", after := #[], guard := none } : Oper)) (v := ?av8) rfl (by kernel_rfl) (by kernel_rfl) (by kernel_rfl) (fun _ _ _ h => h) (Or.inl ⟨by rfl, ?ay8⟩) T0 ?_
        case ay8 => (intro V hSw; go_simp; try with_reducible rfl)
        try simp only [Act.put, List.setIfInBounds_toArray, List.set_cons_zero, List.set_cons_succ]
        refine wpAnyH_take (i := 9) (oi := ({ dst := some 108, op := Op.indexAddr 45 (Operand.tmp 106) (Operand.tmp 107), type := 0, pos := "more.go:38", after := #[{ on := 7, ground := Ground.data }, { on := 8, ground := Ground.data }], guard := none } : Oper)) (v := ?av9) rfl (by kernel_rfl) (by kernel_rfl) (by kernel_rfl) (fun _ _ _ h => h) (Or.inl ⟨by rfl, ?ay9⟩) T0 ?_
        case ay9 => (intro V hSw; go_simp; try with_reducible rfl)
        try simp only [Act.put, List.setIfInBounds_toArray, List.set_cons_zero, List.set_cons_succ]
        refine wpAnyH_take (i := 10) (oi := ({ dst := some 109, op := Op.load 9 (Operand.tmp 108), type := 9, pos := "more.go:38", after := #[{ on := 9, ground := Ground.data }], guard := none } : Oper)) (v := ?av10) rfl (by kernel_rfl) (by kernel_rfl) (by kernel_rfl) (fun _ _ _ h => h) (Or.inl ⟨by rfl, ?ay10⟩) T0 ?_
        case ay10 => (intro V hSw; have e1 := (hSw.cell (p := ⟨bn, on + i, none⟩) hbnw).trans e0; go_simp; try with_reducible rfl)
        try simp only [Act.put, List.setIfInBounds_toArray, List.set_cons_zero, List.set_cons_succ]
        refine wpAnyH_ready (rs := [5]) (by kernel_rfl) (by simp) ?_
        refine (AllReadyH.cons (o := _) rfl (fun K hK => ?_) AllReadyH.nil)
        go_simp
        go_at_call 31
        refine (Chain_any (HT.out.below ((X.out.trans (T0.mono X.out.size)).mono HT.out.hB)) s hz).mono ?_
        rintro e P11 ⟨v1, l1, rfl, hl1, _, own1, hb11⟩
        have HL1 := Lib.hid (hl1 i (by rw [HS.out]; exact ix_of GD.out.apart HC.out))
        have RW1 := Lib.hid own1.row
        have T11 := T0.trans (hb11.mono T0.size)
        clear hl1 own1
        try go_wp2_with fail
        refine hK.out _ _ T11 (fun hS11 => ?_)
        clear hK K
        try simp only [Act.put, List.setIfInBounds_toArray, List.set_cons_zero, List.set_cons_succ]
        refine wpAnyH_ready (rs := [11]) (by kernel_rfl) (by simp) ?_
        refine (AllReadyH.cons (o := _) rfl (fun K hK => ?_) AllReadyH.nil)
        go_simp
        go_at_call 31
        refine (Chain_any (HTU.out.below ((X.out.trans (T11.mono X.out.size)).mono HTU.out.hB)) s hz).mono ?_
        rintro e P12 ⟨v2, l2, rfl, hl2, _, own2, hb12⟩
        have HL2 := Lib.hid (hl2 j (by rw [HS.out]; exact HJ.out))
        have RW2 := Lib.hid own2.row
        replace RW1 := Lib.hid ((RW1.out.keep (fun p hp => hb12.cell hp)).more hb12.size)
        have T12 := T11.trans (hb12.mono T11.size)
        clear hl2 own2
        try go_wp2_with fail
        refine hK.out _ _ T12 (fun hS12 => ?_)
        clear hK K
        try simp only [Act.put, List.setIfInBounds_toArray, List.set_cons_zero, List.set_cons_succ]
        refine wpAnyH_ready (rs := [12]) (by kernel_rfl) (by simp) ?_
        refine (AllReadyH.cons (o := _) rfl (fun K hK => ?_) AllReadyH.nil)
        go_simp
        go_at_call 30
        refine (sameTexts_any _ (nms ds l1) (nms es l2) _ _ _ RW1.out RW2.out (Nat.le_refl _)).mono ?_
        rintro e P13 ⟨rfl, hd13⟩
        rw [decide_eq_true (alike_names GD.out GE.out AL.out.1 AL.out.2 HAT.out HL1.out HL2.out)]
        have T13 := T12.trans (hd13.below.mono T12.size)
        try go_wp2_with fail
        refine hK.out _ _ T13 (fun hS13 => ?_)
        clear hK K
        try simp only [Act.put, List.setIfInBounds_toArray, List.set_cons_zero, List.set_cons_succ]
        refine wpAnyH_take (i := 13) (oi := ({ dst := some 20, op := Op.assign (Operand.tmp 111), type := 4, pos := "more.go:38", after := #[{ on := 12, ground := Ground.data }, { on := 12, ground := Ground.chain }, { on := 0, ground := Ground.phase }, { on := 1, ground := Ground.phase }, { on := 2, ground := Ground.phase }, { on := 3, ground := Ground.phase }, { on := 4, ground := Ground.phase }, { on := 5, ground := Ground.phase }, { on := 6, ground := Ground.phase }, { on := 7, ground := Ground.phase }, { on := 8, ground := Ground.phase }, { on := 9, ground := Ground.phase }, { on := 10, ground := Ground.phase }, { on := 11, ground := Ground.phase }, { on := 12, ground := Ground.phase }], guard := none } : Oper)) (v := ?av14) rfl (by kernel_rfl) (by kernel_rfl) (by kernel_rfl) (fun _ _ _ h => h) (Or.inl ⟨by rfl, ?ay14⟩) T13 ?_
        case ay14 => (intro V hSw; go_simp; try with_reducible rfl)
        try simp only [Act.put, List.setIfInBounds_toArray, List.set_cons_zero, List.set_cons_succ]
        refine wpAnyH_done (by kernel_rfl) ?_ _
        try go_wp2
        go_meet
        case rel => exact ⟨rfl, T13⟩
      obtain ⟨rfl, hb⟩ := hcut
      obtain ⟨V3x, hV⟩ : ∃ x, x = wc := ⟨_, rfl⟩
      subst hV
      replace X := Lib.hid (X.out.trans (hb.mono X.out.size))
      replace Z := Lib.hid (Z.out.trans (hb.mono Z.out.size))
      replace Y1 := Lib.hid ((hb.block _ (lt_of_block Y1.out)).trans Y1.out)
      replace Y2 := Lib.hid ((hb.block _ (lt_of_block Y2.out)).trans Y2.out)
      clear hb
      go_upto_region 19 with fail
      go_cut [21] (fun v wx => v = .bool true ∧ Below V3x.heap.size V3x wx)
      case first => as_aux_lemma =>
        obtain ⟨li, hli⟩ : ∃ li, c.ifaces.length = li := ⟨_, rfl⟩
        rw [hli] at Y1 Y2 IF1 IF2
        have HLI := Lib.hid hli
        clear hli
        have n12 : V3x.cell? ⟨y1, 2, none⟩ = some (.slice ai1 li ci1) := kcells_of Y1.out 2
        have hl1 := lt_of_block Y1.out
        have n22 : V3x.cell? ⟨y2, 2, none⟩ = some (.slice ai2 li ci2) := kcells_of Y2.out 2
        have hl2 := lt_of_block Y2.out
        go_wp2_with fail
        refine (sameTexts_any V2x.heap.size c.ifaces c.ifaces _ _ _ (IF1.out.keep (fun p hp => Z.out.cell hp)) (IF2.out.keep (fun p hp => Z.out.cell hp)) Z.out.size).mono ?_
        rintro e P1 ⟨rfl, hd1⟩
        rw [decide_eq_true rfl]
        have HD1 := Lib.hid hd1
        clear hd1
        go_wp2
        go_meet
        case rel => exact ⟨rfl, HD1.out.below⟩
      obtain ⟨rfl, hb⟩ := hcut
      obtain ⟨V4x, hV⟩ : ∃ x, x = wc := ⟨_, rfl⟩
      subst hV
      replace X := Lib.hid (X.out.trans (hb.mono X.out.size))
      replace Z := Lib.hid (Z.out.trans (hb.mono Z.out.size))
      replace Y1 := Lib.hid ((hb.block _ (lt_of_block Y1.out)).trans Y1.out)
      replace Y2 := Lib.hid ((hb.block _ (lt_of_block Y2.out)).trans Y2.out)
      clear hb
      go_upto_region 20 with fail
      go_cut [154] (fun v wx => v = .bool false ∧ Below V4x.heap.size V4x wx)
      case first => as_aux_lemma =>
        generalize c.iface = bi at Y1 Y2
        generalize c.abs = ba at Y1 Y2
        generalize decide (ow ≤ i) = bo at Y1 Y2
        have n11 : V4x.cell? ⟨y1, 1, none⟩ = some (.string n61) := kcells_of Y1.out 1
        have n13 : V4x.cell? ⟨y1, 3, none⟩ = some (.bool bi) := kcells_of Y1.out 3
        have n14 : V4x.cell? ⟨y1, 4, none⟩ = some (.bool ba) := kcells_of Y1.out 4
        have n15 : V4x.cell? ⟨y1, 5, none⟩ = some (.bool bo) := kcells_of Y1.out 5
        have hl1 := lt_of_block Y1.out
        have n21 : V4x.cell? ⟨y2, 1, none⟩ = some (.string n61) := kcells_of Y2.out 1
        have n23 : V4x.cell? ⟨y2, 3, none⟩ = some (.bool bi) := kcells_of Y2.out 3
        have n24 : V4x.cell? ⟨y2, 4, none⟩ = some (.bool ba) := kcells_of Y2.out 4
        have n25 : V4x.cell? ⟨y2, 5, none⟩ = some (.bool bo) := kcells_of Y2.out 5
        have hl2 := lt_of_block Y2.out
        have e1 : (n61.toList == n61.toList) = true := by simp
        have e2 : (n61.toList != n61.toList) = false := by simp
        have q1 : (bi != bi) = false := by simp
        have q2 : (ba != ba) = false := by simp
        have q3 : (bo != bo) = false := by simp
        go_wp2_with fail
        go_meet
        case rel => exact ⟨rfl, Below.refl _ _⟩
      obtain ⟨rfl, hb⟩ := hcut
      obtain ⟨V5x, hV⟩ : ∃ x, x = wc := ⟨_, rfl⟩
      subst hV
      replace X := Lib.hid (X.out.trans (hb.mono X.out.size))
      replace Z := Lib.hid (Z.out.trans (hb.mono Z.out.size))
      replace Y1 := Lib.hid ((hb.block _ (lt_of_block Y1.out)).trans Y1.out)
      replace Y2 := Lib.hid ((hb.block _ (lt_of_block Y2.out)).trans Y2.out)
      clear hb
      go_wp2
      go_roundg (gk - 1)
      case measure => exact hg1
      case rel => exact ⟨i + 1, by go_num, by omega, X.out⟩
    · have hin2 : n ≤ i := by omega
      clear hin
      obtain ⟨W20, hW⟩ : ∃ x, x = wr := ⟨_, rfl⟩
      subst hW
      go_wp2_with fail
      have hB20 : B0 ≤ W20.heap.size := Nat.le_trans (Nat.le_trans hB BW.out.size) X.out.size
      refine (types_any l v3 W20 (HI.out.keep (fun p hp => (BW.out.trans (X.out.mono BW.out.size)).cell (Nat.lt_of_lt_of_le hp hB))) hB20 (fun c hc => HL.out c hc)).mono ?_
      rintro e TW ⟨vt, rfl, own, b21⟩
      have TR := Lib.hid (types_row own)
      obtain ⟨a8, c8, e8, _, hmax8⟩ := (types_row own).length
      subst e8
      obtain ⟨q, hq⟩ : ∃ q, (typesR l).length = q := ⟨_, rfl⟩
      have hq12 : q ≤ 12 := by rw [← hq]; simp [typesR]; omega
      rw [hq] at TR ⊢
      have HQ := Lib.hid hq
      have XT := Lib.hid (X.out.trans (b21.mono X.out.size))
      replace HT := Lib.hid (HT.out.below (XT.out.mono HT.out.hB))
      replace HTU := Lib.hid (HTU.out.below (XT.out.mono HTU.out.hB))
      clear own b21 hq hmax8 hB20 X NA hs8
      go_wp2
      go_loopg [23] q (fun g iv wx => ∃ i : Nat, iv = .int .i64 i ∧ i + g = q ∧ Below TW.heap.size TW wx)
      case atStart => exact ⟨0, rfl, by omega, Below.refl _ _⟩
      case round =>
        obtain ⟨i2, rfl, hig2, hb⟩ := hrel
        have X := Lib.hid hb
        clear hb
        obtain ⟨V0, hV0⟩ : ∃ x, x = wr := ⟨_, rfl⟩
        subst hV0
        obtain ⟨g1, hgn⟩ : ∃ g, g = gk := ⟨_, rfl⟩
        subst hgn
        by_cases hiq : i2 < q
        · obtain ⟨⟨d1, s1⟩, ht1⟩ : ∃ t, (typesR l)[i2]? = some t := ⟨_, List.getElem?_eq_getElem (by rw [HQ.out]; exact hiq)⟩
          obtain ⟨bt, ot, rfl, hbt, ca0, ca1⟩ := TR.out.at_ ht1
          have hz1 := types_small ht1
          simp only at hz1 ca0 ca1
          have CA := Lib.hid (And.intro ca0 ca1)
          have hg2 : g1 - 1 < g1 := by omega
          clear ht1 ca0 ca1
          go_wp2
          go_loopg [24] q (fun g iv wx => ∃ k : Nat, iv = .int .i64 k ∧ k + g = q ∧ Below V0.heap.size V0 wx)
          case atStart => exact ⟨0, rfl, by omega, Below.refl _ _⟩
          case round =>
            obtain ⟨k, rfl, hkg, hb⟩ := hrel
            replace X := Lib.hid (X.out.trans (hb.mono X.out.size))
            have Z := Lib.hid hb
            clear hb
            obtain ⟨Vk, hVk⟩ : ∃ x, x = wr := ⟨_, rfl⟩
            subst hVk
            obtain ⟨g2, hgn⟩ : ∃ g, g = gk := ⟨_, rfl⟩
            subst hgn
            by_cases hkq : k < q
            · obtain ⟨⟨d2, s2⟩, ht2⟩ : ∃ t, (typesR l)[k]? = some t := ⟨_, List.getElem?_eq_getElem (by rw [HQ.out]; exact hkq)⟩
              obtain ⟨bt', ot', e0, hbt', cb0, cb1⟩ := TR.out.at_ ht2
              injection e0 with e0
              injection e0 with e0 e1
              subst e0
              subst e1
              have hz2 := types_small ht2
              simp only at hz2 cb0 cb1
              have CB := Lib.hid (And.intro cb0 cb1)
              have hg3 : g2 - 1 < g2 := by omega
              clear ht2 hbt' cb0 cb1
              go_upto_region 29 with fail
              go_cut [25, 26] (fun va vb wx => ∃ y d t ok, va = .pointer (some ⟨y, 0, none⟩) ∧ vb = .bool ok ∧ LubIs ds (d1, s1.data.toList) (d2, s2.data.toList) d t ok ∧ Below Vk.heap.size Vk wx ∧ wx.heap[y]? = some (.cells #[.int .i64 d, .string t] 31 (0, 0)))
              case first => as_aux_lemma =>
                have ca0 := (X.out.cell (p := ⟨bt, ot + i2 * 2, none⟩) hbt).trans CA.out.1
                have ca1 := (X.out.cell (p := ⟨bt, ot + i2 * 2 + 1, none⟩) hbt).trans CA.out.2
                have cb0 := (X.out.cell (p := ⟨bt, ot + k * 2, none⟩) hbt).trans CB.out.1
                have cb1 := (X.out.cell (p := ⟨bt, ot + k * 2 + 1, none⟩) hbt).trans CB.out.2
                have hbtw : bt < Vk.heap.size := Nat.lt_of_lt_of_le hbt X.out.size
                have T0 := (Below.refl Vk.heap.size Vk).drew
                refine wp_region_held_drew (S := fun V => Below Vk.heap.size Vk V) (by kernel_rfl) T0 (fun hS0 => ?_)
                refine wpAnyH_take (i := 0) (oi := ({ dst := some 170, op := Op.move (Operand.tmp 8), type := 32, pos := "more.go:47", after := #[], guard := none } : Oper)) (v := ?av15) rfl (by kernel_rfl) (by kernel_rfl) (by kernel_rfl) (fun _ _ _ h => h) (Or.inl ⟨by rfl, ?ay15⟩) T0 ?_
                case ay15 => (intro V hSw; go_simp; try with_reducible rfl)
                try simp only [Act.put, List.setIfInBounds_toArray, List.set_cons_zero, List.set_cons_succ]
                refine wpAnyH_take (i := 1) (oi := ({ dst := some 171, op := Op.move (Operand.tmp 22), type := 39, pos := "more.go:47", after := #[], guard := none } : Oper)) (v := ?av16) rfl (by kernel_rfl) (by kernel_rfl) (by kernel_rfl) (fun _ _ _ h => h) (Or.inl ⟨by rfl, ?ay16⟩) T0 ?_
                case ay16 => (intro V hSw; go_simp; try with_reducible rfl)
                try simp only [Act.put, List.setIfInBounds_toArray, List.set_cons_zero, List.set_cons_succ]
                refine wpAnyH_take (i := 2) (oi := ({ dst := some 172, op := Op.move (Operand.tmp 23), type := 3, pos := "more.go:47", after := #[], guard := none } : Oper)) (v := ?av17) rfl (by kernel_rfl) (by kernel_rfl) (by kernel_rfl) (fun _ _ _ h => h) (Or.inl ⟨by rfl, ?ay17⟩) T0 ?_
                case ay17 => (intro V hSw; go_simp; try with_reducible rfl)
                try simp only [Act.put, List.setIfInBounds_toArray, List.set_cons_zero, List.set_cons_succ]
                refine wpAnyH_take (i := 3) (oi := ({ dst := some 173, op := Op.indexAddr 39 (Operand.tmp 171) (Operand.tmp 172), type := 0, pos := "more.go:47", after := #[{ on := 1, ground := Ground.data }, { on := 2, ground := Ground.data }], guard := none } : Oper)) (v := ?av18) rfl (by kernel_rfl) (by kernel_rfl) (by kernel_rfl) (fun _ _ _ h => h) (Or.inl ⟨by rfl, ?ay18⟩) T0 ?_
                case ay18 => (intro V hSw; go_simp; try with_reducible rfl)
                try simp only [Act.put, List.setIfInBounds_toArray, List.set_cons_zero, List.set_cons_succ]
                refine wpAnyH_take (i := 4) (oi := ({ dst := some 174, op := Op.load 31 (Operand.tmp 173), type := 31, pos := "more.go:47", after := #[{ on := 3, ground := Ground.data }], guard := none } : Oper)) (v := ?av19) rfl (by kernel_rfl) (by kernel_rfl) (by kernel_rfl) (fun _ _ _ h => h) (Or.inl ⟨by rfl, ?ay19⟩) T0 ?_
                case ay19 => (intro V hSw; have e1 := (hSw.cell (p := ⟨bt, ot + i2 * 2, none⟩) hbtw).trans ca0; have e2 := (hSw.cell (p := ⟨bt, ot + i2 * 2 + 1, none⟩) hbtw).trans ca1; go_simp; try with_reducible rfl)
                try simp only [Act.put, List.setIfInBounds_toArray, List.set_cons_zero, List.set_cons_succ]
                refine wpAnyH_take (i := 5) (oi := ({ dst := some 175, op := Op.move (Operand.tmp 22), type := 39, pos := "more.go:47", after := #[], guard := none } : Oper)) (v := ?av20) rfl (by kernel_rfl) (by kernel_rfl) (by kernel_rfl) (fun _ _ _ h => h) (Or.inl ⟨by rfl, ?ay20⟩) T0 ?_
                case ay20 => (intro V hSw; go_simp; try with_reducible rfl)
                try simp only [Act.put, List.setIfInBounds_toArray, List.set_cons_zero, List.set_cons_succ]
                refine wpAnyH_take (i := 6) (oi := ({ dst := some 176, op := Op.move (Operand.tmp 24), type := 3, pos := "more.go:47", after := #[], guard := none } : Oper)) (v := ?av21) rfl (by kernel_rfl) (by kernel_rfl) (by kernel_rfl) (fun _ _ _ h => h) (Or.inl ⟨by rfl, ?ay21⟩) T0 ?_
                case ay21 => (intro V hSw; go_simp; try with_reducible rfl)
                try simp only [Act.put, List.setIfInBounds_toArray, List.set_cons_zero, List.set_cons_succ]
                refine wpAnyH_take (i := 7) (oi := ({ dst := some 177, op := Op.indexAddr 39 (Operand.tmp 175) (Operand.tmp 176), type := 0, pos := "more.go:47", after := #[{ on := 5, ground := Ground.data }, { on := 6, ground := Ground.data }], guard := none } : Oper)) (v := ?av22) rfl (by kernel_rfl) (by kernel_rfl) (by kernel_rfl) (fun _ _ _ h => h) (Or.inl ⟨by rfl, ?ay22⟩) T0 ?_
                case ay22 => (intro V hSw; go_simp; try with_reducible rfl)
                try simp only [Act.put, List.setIfInBounds_toArray, List.set_cons_zero, List.set_cons_succ]
                refine wpAnyH_take (i := 8) (oi := ({ dst := some 178, op := Op.load 31 (Operand.tmp 177), type := 31, pos := "more.go:47", after := #[{ on := 7, ground := Ground.data }], guard := none } : Oper)) (v := ?av23) rfl (by kernel_rfl) (by kernel_rfl) (by kernel_rfl) (fun _ _ _ h => h) (Or.inl ⟨by rfl, ?ay23⟩) T0 ?_
                case ay23 => (intro V hSw; have e1 := (hSw.cell (p := ⟨bt, ot + k * 2, none⟩) hbtw).trans cb0; have e2 := (hSw.cell (p := ⟨bt, ot + k * 2 + 1, none⟩) hbtw).trans cb1; go_simp; try with_reducible rfl)
                try simp only [Act.put, List.setIfInBounds_toArray, List.set_cons_zero, List.set_cons_succ]
                refine wpAnyH_ready (rs := [9, 13]) (by kernel_rfl) (by simp) ?_
                refine (AllReadyH.cons (o := _) rfl (fun K hK => ?_) (AllReadyH.cons (o := _) rfl (fun K hK => ?_) AllReadyH.nil))
                · go_simp
                  go_at_call 21
                  refine (lub_is_any (HT.out.below ((X.out.trans (T0.mono X.out.size)).mono HT.out.hB)) (by exact hz1) (by exact hz2)).mono ?_
                  rintro e P1 ⟨d, t, ok, rfl, hL, hb1⟩
                  have LL := Lib.hid hL
                  have T24 := T0.trans (hb1.mono T0.size)
                  clear hL
                  try go_wp2_with fail
                  refine hK.out _ _ T24 (fun hS24 => ?_)
                  clear hK K
                  try simp only [Act.put, List.setIfInBounds_toArray, List.set_cons_zero, List.set_cons_succ]
                  refine wpAnyH_take (i := 10) (oi := ({ dst := some 169, op := Op.move (Operand.tmp 179), type := 41, pos := "more.go:47", after := #[{ on := 9, ground := Ground.data }], guard := none } : Oper)) (v := ?av25) rfl (by kernel_rfl) (by kernel_rfl) (by kernel_rfl) (fun _ _ _ h => h) (Or.inl ⟨by rfl, ?ay25⟩) T24 ?_
                  case ay25 => (intro V hSw; go_simp; try with_reducible rfl)
                  try simp only [Act.put, List.setIfInBounds_toArray, List.set_cons_zero, List.set_cons_succ]
                  refine wpAnyH_take (i := 11) (oi := ({ dst := some 180, op := Op.extract (Operand.tmp 169) 0, type := 31, pos := "more.go:47", after := #[{ on := 10, ground := Ground.data }], guard := none } : Oper)) (v := ?av26) rfl (by kernel_rfl) (by kernel_rfl) (by kernel_rfl) (fun _ _ _ h => h) (Or.inl ⟨by rfl, ?ay26⟩) T24 ?_
                  case ay26 => (intro V hSw; go_simp; try with_reducible rfl)
                  try simp only [Act.put, List.setIfInBounds_toArray, List.set_cons_zero, List.set_cons_succ]
                  refine wpAnyH_take (i := 12) (oi := ({ dst := some 181, op := Op.extract (Operand.tmp 169) 1, type := 4, pos := "more.go:47", after := #[{ on := 10, ground := Ground.data }, { on := 14, ground := Ground.gcOnly Departure.lateStores }], guard := none } : Oper)) (v := ?av27) rfl (by kernel_rfl) (by kernel_rfl) (by kernel_rfl) (fun _ _ _ h => h) (Or.inl ⟨by rfl, ?ay27⟩) T24 ?_
                  case ay27 => (intro V hSw; go_simp; try with_reducible rfl)
                  try simp only [Act.put, List.setIfInBounds_toArray, List.set_cons_zero, List.set_cons_succ]
                  refine wpAnyH_ready (rs := [13]) (by kernel_rfl) (by simp) ?_
                  refine (AllReadyH.cons (o := _) rfl (fun K hK => ?_) AllReadyH.nil)
                  go_simp
                  have T28 := T24.alloc T24.size (.cells #[.int .i64 0, .string ⟨#[]⟩] 31)
                  try go_wp2_with fail
                  refine hK.out _ _ T28 (fun hS28 => ?_)
                  clear hK K
                  try simp only [Act.put, List.setIfInBounds_toArray, List.set_cons_zero, List.set_cons_succ]
                  refine wpAnyH_ready (rs := [14]) (by kernel_rfl) (by simp) ?_
                  refine (AllReadyH.cons (o := _) rfl (fun K hK => ?_) AllReadyH.nil)
                  go_simp
                  have nb := hheap_new P1 (.cells #[.int .i64 0, .string ⟨#[]⟩] 31)
                  have n0 := kcells_of nb 0
                  have n1 := kcells_of nb 1
                  have nf := kfree_of nb
                  go_simp
                  have NB := hheap_new P1 (.cells #[.int .i64 d, .string t] 31)
                  have T29 := T24.alloc T24.size (.cells #[.int .i64 d, .string t] 31)
                  try go_wp2_with fail
                  refine hK.out _ _ T29 (fun hS29 => ?_)
                  clear hK K
                  try simp only [Act.put, List.setIfInBounds_toArray, List.set_cons_zero, List.set_cons_succ]
                  refine wpAnyH_take (i := 15) (oi := ({ dst := some 26, op := Op.assign (Operand.tmp 181), type := 4, pos := "more.go:47", after := #[{ on := 12, ground := Ground.data }, { on := 14, ground := Ground.chain }, { on := 0, ground := Ground.phase }, { on := 1, ground := Ground.phase }, { on := 2, ground := Ground.phase }, { on := 3, ground := Ground.phase }, { on := 4, ground := Ground.phase }, { on := 5, ground := Ground.phase }, { on := 6, ground := Ground.phase }, { on := 7, ground := Ground.phase }, { on := 8, ground := Ground.phase }, { on := 9, ground := Ground.phase }, { on := 10, ground := Ground.phase }, { on := 11, ground := Ground.phase }, { on := 12, ground := Ground.phase }, { on := 13, ground := Ground.phase }, { on := 14, ground := Ground.phase }], guard := none } : Oper)) (v := ?av30) rfl (by kernel_rfl) (by kernel_rfl) (by kernel_rfl) (fun _ _ _ h => h) (Or.inl ⟨by rfl, ?ay30⟩) T29 ?_
                  case ay30 => (intro V hSw; go_simp; try with_reducible rfl)
                  try simp only [Act.put, List.setIfInBounds_toArray, List.set_cons_zero, List.set_cons_succ]
                  refine wpAnyH_done (by kernel_rfl) ?_ _
                  try go_wp2
                  go_meet
                  case rel => exact ⟨_, _, _, _, rfl, rfl, LL.out, T29, NB⟩
                · go_simp
                  have T31 := T0.alloc T0.size (.cells #[.int .i64 0, .string ⟨#[]⟩] 31)
                  try go_wp2_with fail
                  refine hK.out _ _ T31 (fun hS31 => ?_)
                  clear hK K
                  try simp only [Act.put, List.setIfInBounds_toArray, List.set_cons_zero, List.set_cons_succ]
                  refine wpAnyH_ready (rs := [9]) (by kernel_rfl) (by simp) ?_
                  refine (AllReadyH.cons (o := _) rfl (fun K hK => ?_) AllReadyH.nil)
                  go_simp
                  go_at_call 21
                  refine (lub_is_any (HT.out.below ((X.out.trans (T31.mono X.out.size)).mono HT.out.hB)) (by exact hz1) (by exact hz2)).mono ?_
                  rintro e P1 ⟨d, t, ok, rfl, hL, hb1⟩
                  have LL := Lib.hid hL
                  have T32 := T31.trans (hb1.mono T31.size)
                  have nb : P1.heap[Vk.heap.size]? = some (.cells #[.int .i64 0, .string ⟨#[]⟩] 31 (0, 0)) := alloc_facts (W0 := Vk.drew) hb1
                  clear hL
                  try go_wp2_with fail
                  refine hK.out _ _ T32 (fun hS32 => ?_)
                  clear hK K
                  try simp only [Act.put, List.setIfInBounds_toArray, List.set_cons_zero, List.set_cons_succ]
                  refine wpAnyH_take (i := 10) (oi := ({ dst := some 169, op := Op.move (Operand.tmp 179), type := 41, pos := "more.go:47", after := #[{ on := 9, ground := Ground.data }], guard := none } : Oper)) (v := ?av33) rfl (by kernel_rfl) (by kernel_rfl) (by kernel_rfl) (fun _ _ _ h => h) (Or.inl ⟨by rfl, ?ay33⟩) T32 ?_
                  case ay33 => (intro V hSw; go_simp; try with_reducible rfl)
                  try simp only [Act.put, List.setIfInBounds_toArray, List.set_cons_zero, List.set_cons_succ]
                  refine wpAnyH_take (i := 11) (oi := ({ dst := some 180, op := Op.extract (Operand.tmp 169) 0, type := 31, pos := "more.go:47", after := #[{ on := 10, ground := Ground.data }], guard := none } : Oper)) (v := ?av34) rfl (by kernel_rfl) (by kernel_rfl) (by kernel_rfl) (fun _ _ _ h => h) (Or.inl ⟨by rfl, ?ay34⟩) T32 ?_
                  case ay34 => (intro V hSw; go_simp; try with_reducible rfl)
                  try simp only [Act.put, List.setIfInBounds_toArray, List.set_cons_zero, List.set_cons_succ]
                  refine wpAnyH_take (i := 12) (oi := ({ dst := some 181, op := Op.extract (Operand.tmp 169) 1, type := 4, pos := "more.go:47", after := #[{ on := 10, ground := Ground.data }, { on := 14, ground := Ground.gcOnly Departure.lateStores }], guard := none } : Oper)) (v := ?av35) rfl (by kernel_rfl) (by kernel_rfl) (by kernel_rfl) (fun _ _ _ h => h) (Or.inl ⟨by rfl, ?ay35⟩) T32 ?_
                  case ay35 => (intro V hSw; go_simp; try with_reducible rfl)
                  try simp only [Act.put, List.setIfInBounds_toArray, List.set_cons_zero, List.set_cons_succ]
                  refine wpAnyH_ready (rs := [14]) (by kernel_rfl) (by simp) ?_
                  refine (AllReadyH.cons (o := _) rfl (fun K hK => ?_) AllReadyH.nil)
                  go_simp
                  have n0 := kcells_of nb 0
                  have n1 := kcells_of nb 1
                  have nf := kfree_of nb
                  go_simp
                  have NB := set2 nb (.int .i64 d) (.string t)
                  have T36 := (T32.setCell (p := ⟨Vk.heap.size, 0, none⟩) (Nat.le_refl _) (.int .i64 d)).setCell (p := ⟨Vk.heap.size, 1, none⟩) (Nat.le_refl _) (.string t)
                  try go_wp2_with fail
                  refine hK.out _ _ T36 (fun hS36 => ?_)
                  clear hK K
                  try simp only [Act.put, List.setIfInBounds_toArray, List.set_cons_zero, List.set_cons_succ]
                  refine wpAnyH_take (i := 15) (oi := ({ dst := some 26, op := Op.assign (Operand.tmp 181), type := 4, pos := "more.go:47", after := #[{ on := 12, ground := Ground.data }, { on := 14, ground := Ground.chain }, { on := 0, ground := Ground.phase }, { on := 1, ground := Ground.phase }, { on := 2, ground := Ground.phase }, { on := 3, ground := Ground.phase }, { on := 4, ground := Ground.phase }, { on := 5, ground := Ground.phase }, { on := 6, ground := Ground.phase }, { on := 7, ground := Ground.phase }, { on := 8, ground := Ground.phase }, { on := 9, ground := Ground.phase }, { on := 10, ground := Ground.phase }, { on := 11, ground := Ground.phase }, { on := 12, ground := Ground.phase }, { on := 13, ground := Ground.phase }, { on := 14, ground := Ground.phase }], guard := none } : Oper)) (v := ?av37) rfl (by kernel_rfl) (by kernel_rfl) (by kernel_rfl) (fun _ _ _ h => h) (Or.inl ⟨by rfl, ?ay37⟩) T36 ?_
                  case ay37 => (intro V hSw; go_simp; try with_reducible rfl)
                  try simp only [Act.put, List.setIfInBounds_toArray, List.set_cons_zero, List.set_cons_succ]
                  refine wpAnyH_done (by kernel_rfl) ?_ _
                  try go_wp2
                  go_meet
                  case rel => exact ⟨_, _, _, _, rfl, rfl, LL.out, T36, NB⟩
              obtain ⟨y1, dl1, tl1, ok1, rfl, rfl, hL, hb, hy⟩ := hcut
              obtain ⟨V6x, hV⟩ : ∃ x, x = wc := ⟨_, rfl⟩
              subst hV
              replace X := Lib.hid (X.out.trans (hb.mono X.out.size))
              replace Z := Lib.hid (Z.out.trans (hb.mono Z.out.size))
              have LX1 := Lib.hid hL
              have Y1 := Lib.hid hy
              clear hL hy
              clear hb
              go_upto_region 30 with fail
              go_cut [27, 28] (fun va vb wx => ∃ y d t ok, va = .pointer (some ⟨y, 0, none⟩) ∧ vb = .bool ok ∧ LubIs es (d1, s1.data.toList) (d2, s2.data.toList) d t ok ∧ Below V6x.heap.size V6x wx ∧ wx.heap[y]? = some (.cells #[.int .i64 d, .string t] 31 (0, 0)))
              case first => as_aux_lemma =>
                have ca0 := (X.out.cell (p := ⟨bt, ot + i2 * 2, none⟩) hbt).trans CA.out.1
                have ca1 := (X.out.cell (p := ⟨bt, ot + i2 * 2 + 1, none⟩) hbt).trans CA.out.2
                have cb0 := (X.out.cell (p := ⟨bt, ot + k * 2, none⟩) hbt).trans CB.out.1
                have cb1 := (X.out.cell (p := ⟨bt, ot + k * 2 + 1, none⟩) hbt).trans CB.out.2
                have hbtw : bt < V6x.heap.size := Nat.lt_of_lt_of_le hbt X.out.size
                have T0 := (Below.refl V6x.heap.size V6x).drew
                refine wp_region_held_drew (S := fun V => Below V6x.heap.size V6x V) (by kernel_rfl) T0 (fun hS0 => ?_)
                refine wpAnyH_take (i := 0) (oi := ({ dst := some 183, op := Op.move (Operand.tmp 11), type := 32, pos := "more.go:48", after := #[], guard := none } : Oper)) (v := ?av38) rfl (by kernel_rfl) (by kernel_rfl) (by kernel_rfl) (fun _ _ _ h => h) (Or.inl ⟨by rfl, ?ay38⟩) T0 ?_
                case ay38 => (intro V hSw; go_simp; try with_reducible rfl)
                try simp only [Act.put, List.setIfInBounds_toArray, List.set_cons_zero, List.set_cons_succ]
                refine wpAnyH_take (i := 1) (oi := ({ dst := some 184, op := Op.move (Operand.tmp 22), type := 39, pos := "more.go:48", after := #[], guard := none } : Oper)) (v := ?av39) rfl (by kernel_rfl) (by kernel_rfl) (by kernel_rfl) (fun _ _ _ h => h) (Or.inl ⟨by rfl, ?ay39⟩) T0 ?_
                case ay39 => (intro V hSw; go_simp; try with_reducible rfl)
                try simp only [Act.put, List.setIfInBounds_toArray, List.set_cons_zero, List.set_cons_succ]
                refine wpAnyH_take (i := 2) (oi := ({ dst := some 185, op := Op.move (Operand.tmp 23), type := 3, pos := "more.go:48", after := #[], guard := none } : Oper)) (v := ?av40) rfl (by kernel_rfl) (by kernel_rfl) (by kernel_rfl) (fun _ _ _ h => h) (Or.inl ⟨by rfl, ?ay40⟩) T0 ?_
                case ay40 => (intro V hSw; go_simp; try with_reducible rfl)
                try simp only [Act.put, List.setIfInBounds_toArray, List.set_cons_zero, List.set_cons_succ]
                refine wpAnyH_take (i := 3) (oi := ({ dst := some 186, op := Op.indexAddr 39 (Operand.tmp 184) (Operand.tmp 185), type := 0, pos := "more.go:48", after := #[{ on := 1, ground := Ground.data }, { on := 2, ground := Ground.data }], guard := none } : Oper)) (v := ?av41) rfl (by kernel_rfl) (by kernel_rfl) (by kernel_rfl) (fun _ _ _ h => h) (Or.inl ⟨by rfl, ?ay41⟩) T0 ?_
                case ay41 => (intro V hSw; go_simp; try with_reducible rfl)
                try simp only [Act.put, List.setIfInBounds_toArray, List.set_cons_zero, List.set_cons_succ]
                refine wpAnyH_take (i := 4) (oi := ({ dst := some 187, op := Op.load 31 (Operand.tmp 186), type := 31, pos := "more.go:48", after := #[{ on := 3, ground := Ground.data }], guard := none } : Oper)) (v := ?av42) rfl (by kernel_rfl) (by kernel_rfl) (by kernel_rfl) (fun _ _ _ h => h) (Or.inl ⟨by rfl, ?ay42⟩) T0 ?_
                case ay42 => (intro V hSw; have e1 := (hSw.cell (p := ⟨bt, ot + i2 * 2, none⟩) hbtw).trans ca0; have e2 := (hSw.cell (p := ⟨bt, ot + i2 * 2 + 1, none⟩) hbtw).trans ca1; go_simp; try with_reducible rfl)
                try simp only [Act.put, List.setIfInBounds_toArray, List.set_cons_zero, List.set_cons_succ]
                refine wpAnyH_take (i := 5) (oi := ({ dst := some 188, op := Op.move (Operand.tmp 22), type := 39, pos := "more.go:48", after := #[], guard := none } : Oper)) (v := ?av43) rfl (by kernel_rfl) (by kernel_rfl) (by kernel_rfl) (fun _ _ _ h => h) (Or.inl ⟨by rfl, ?ay43⟩) T0 ?_
                case ay43 => (intro V hSw; go_simp; try with_reducible rfl)
                try simp only [Act.put, List.setIfInBounds_toArray, List.set_cons_zero, List.set_cons_succ]
                refine wpAnyH_take (i := 6) (oi := ({ dst := some 189, op := Op.move (Operand.tmp 24), type := 3, pos := "more.go:48", after := #[], guard := none } : Oper)) (v := ?av44) rfl (by kernel_rfl) (by kernel_rfl) (by kernel_rfl) (fun _ _ _ h => h) (Or.inl ⟨by rfl, ?ay44⟩) T0 ?_
                case ay44 => (intro V hSw; go_simp; try with_reducible rfl)
                try simp only [Act.put, List.setIfInBounds_toArray, List.set_cons_zero, List.set_cons_succ]
                refine wpAnyH_take (i := 7) (oi := ({ dst := some 190, op := Op.indexAddr 39 (Operand.tmp 188) (Operand.tmp 189), type := 0, pos := "more.go:48", after := #[{ on := 5, ground := Ground.data }, { on := 6, ground := Ground.data }], guard := none } : Oper)) (v := ?av45) rfl (by kernel_rfl) (by kernel_rfl) (by kernel_rfl) (fun _ _ _ h => h) (Or.inl ⟨by rfl, ?ay45⟩) T0 ?_
                case ay45 => (intro V hSw; go_simp; try with_reducible rfl)
                try simp only [Act.put, List.setIfInBounds_toArray, List.set_cons_zero, List.set_cons_succ]
                refine wpAnyH_take (i := 8) (oi := ({ dst := some 191, op := Op.load 31 (Operand.tmp 190), type := 31, pos := "more.go:48", after := #[{ on := 7, ground := Ground.data }], guard := none } : Oper)) (v := ?av46) rfl (by kernel_rfl) (by kernel_rfl) (by kernel_rfl) (fun _ _ _ h => h) (Or.inl ⟨by rfl, ?ay46⟩) T0 ?_
                case ay46 => (intro V hSw; have e1 := (hSw.cell (p := ⟨bt, ot + k * 2, none⟩) hbtw).trans cb0; have e2 := (hSw.cell (p := ⟨bt, ot + k * 2 + 1, none⟩) hbtw).trans cb1; go_simp; try with_reducible rfl)
                try simp only [Act.put, List.setIfInBounds_toArray, List.set_cons_zero, List.set_cons_succ]
                refine wpAnyH_ready (rs := [9, 13]) (by kernel_rfl) (by simp) ?_
                refine (AllReadyH.cons (o := _) rfl (fun K hK => ?_) (AllReadyH.cons (o := _) rfl (fun K hK => ?_) AllReadyH.nil))
                · go_simp
                  go_at_call 21
                  refine (lub_is_any (HTU.out.below ((X.out.trans (T0.mono X.out.size)).mono HTU.out.hB)) (by exact hz1) (by exact hz2)).mono ?_
                  rintro e P1 ⟨d, t, ok, rfl, hL, hb1⟩
                  have LL := Lib.hid hL
                  have T47 := T0.trans (hb1.mono T0.size)
                  clear hL
                  try go_wp2_with fail
                  refine hK.out _ _ T47 (fun hS47 => ?_)
                  clear hK K
                  try simp only [Act.put, List.setIfInBounds_toArray, List.set_cons_zero, List.set_cons_succ]
                  refine wpAnyH_take (i := 10) (oi := ({ dst := some 182, op := Op.move (Operand.tmp 192), type := 41, pos := "more.go:48", after := #[{ on := 9, ground := Ground.data }], guard := none } : Oper)) (v := ?av48) rfl (by kernel_rfl) (by kernel_rfl) (by kernel_rfl) (fun _ _ _ h => h) (Or.inl ⟨by rfl, ?ay48⟩) T47 ?_
                  case ay48 => (intro V hSw; go_simp; try with_reducible rfl)
                  try simp only [Act.put, List.setIfInBounds_toArray, List.set_cons_zero, List.set_cons_succ]
                  refine wpAnyH_take (i := 11) (oi := ({ dst := some 193, op := Op.extract (Operand.tmp 182) 0, type := 31, pos := "more.go:48", after := #[{ on := 10, ground := Ground.data }], guard := none } : Oper)) (v := ?av49) rfl (by kernel_rfl) (by kernel_rfl) (by kernel_rfl) (fun _ _ _ h => h) (Or.inl ⟨by rfl, ?ay49⟩) T47 ?_
                  case ay49 => (intro V hSw; go_simp; try with_reducible rfl)
                  try simp only [Act.put, List.setIfInBounds_toArray, List.set_cons_zero, List.set_cons_succ]
                  refine wpAnyH_take (i := 12) (oi := ({ dst := some 194, op := Op.extract (Operand.tmp 182) 1, type := 4, pos := "more.go:48", after := #[{ on := 10, ground := Ground.data }, { on := 14, ground := Ground.gcOnly Departure.lateStores }], guard := none } : Oper)) (v := ?av50) rfl (by kernel_rfl) (by kernel_rfl) (by kernel_rfl) (fun _ _ _ h => h) (Or.inl ⟨by rfl, ?ay50⟩) T47 ?_
                  case ay50 => (intro V hSw; go_simp; try with_reducible rfl)
                  try simp only [Act.put, List.setIfInBounds_toArray, List.set_cons_zero, List.set_cons_succ]
                  refine wpAnyH_ready (rs := [13]) (by kernel_rfl) (by simp) ?_
                  refine (AllReadyH.cons (o := _) rfl (fun K hK => ?_) AllReadyH.nil)
                  go_simp
                  have T51 := T47.alloc T47.size (.cells #[.int .i64 0, .string ⟨#[]⟩] 31)
                  try go_wp2_with fail
                  refine hK.out _ _ T51 (fun hS51 => ?_)
                  clear hK K
                  try simp only [Act.put, List.setIfInBounds_toArray, List.set_cons_zero, List.set_cons_succ]
                  refine wpAnyH_ready (rs := [14]) (by kernel_rfl) (by simp) ?_
                  refine (AllReadyH.cons (o := _) rfl (fun K hK => ?_) AllReadyH.nil)
                  go_simp
                  have nb := hheap_new P1 (.cells #[.int .i64 0, .string ⟨#[]⟩] 31)
                  have n0 := kcells_of nb 0
                  have n1 := kcells_of nb 1
                  have nf := kfree_of nb
                  go_simp
                  have NB := hheap_new P1 (.cells #[.int .i64 d, .string t] 31)
                  have T52 := T47.alloc T47.size (.cells #[.int .i64 d, .string t] 31)
                  try go_wp2_with fail
                  refine hK.out _ _ T52 (fun hS52 => ?_)
                  clear hK K
                  try simp only [Act.put, List.setIfInBounds_toArray, List.set_cons_zero, List.set_cons_succ]
                  refine wpAnyH_take (i := 15) (oi := ({ dst := some 28, op := Op.assign (Operand.tmp 194), type := 4, pos := "more.go:48", after := #[{ on := 12, ground := Ground.data }, { on := 14, ground := Ground.chain }, { on := 0, ground := Ground.phase }, { on := 1, ground := Ground.phase }, { on := 2, ground := Ground.phase }, { on := 3, ground := Ground.phase }, { on := 4, ground := Ground.phase }, { on := 5, ground := Ground.phase }, { on := 6, ground := Ground.phase }, { on := 7, ground := Ground.phase }, { on := 8, ground := Ground.phase }, { on := 9, ground := Ground.phase }, { on := 10, ground := Ground.phase }, { on := 11, ground := Ground.phase }, { on := 12, ground := Ground.phase }, { on := 13, ground := Ground.phase }, { on := 14, ground := Ground.phase }], guard := none } : Oper)) (v := ?av53) rfl (by kernel_rfl) (by kernel_rfl) (by kernel_rfl) (fun _ _ _ h => h) (Or.inl ⟨by rfl, ?ay53⟩) T52 ?_
                  case ay53 => (intro V hSw; go_simp; try with_reducible rfl)
                  try simp only [Act.put, List.setIfInBounds_toArray, List.set_cons_zero, List.set_cons_succ]
                  refine wpAnyH_done (by kernel_rfl) ?_ _
                  try go_wp2
                  go_meet
                  case rel => exact ⟨_, _, _, _, rfl, rfl, LL.out, T52, NB⟩
                · go_simp
                  have T54 := T0.alloc T0.size (.cells #[.int .i64 0, .string ⟨#[]⟩] 31)
                  try go_wp2_with fail
                  refine hK.out _ _ T54 (fun hS54 => ?_)
                  clear hK K
                  try simp only [Act.put, List.setIfInBounds_toArray, List.set_cons_zero, List.set_cons_succ]
                  refine wpAnyH_ready (rs := [9]) (by kernel_rfl) (by simp) ?_
                  refine (AllReadyH.cons (o := _) rfl (fun K hK => ?_) AllReadyH.nil)
                  go_simp
                  go_at_call 21
                  refine (lub_is_any (HTU.out.below ((X.out.trans (T54.mono X.out.size)).mono HTU.out.hB)) (by exact hz1) (by exact hz2)).mono ?_
                  rintro e P1 ⟨d, t, ok, rfl, hL, hb1⟩
                  have LL := Lib.hid hL
                  have T55 := T54.trans (hb1.mono T54.size)
                  have nb : P1.heap[V6x.heap.size]? = some (.cells #[.int .i64 0, .string ⟨#[]⟩] 31 (0, 0)) := alloc_facts (W0 := V6x.drew) hb1
                  clear hL
                  try go_wp2_with fail
                  refine hK.out _ _ T55 (fun hS55 => ?_)
                  clear hK K
                  try simp only [Act.put, List.setIfInBounds_toArray, List.set_cons_zero, List.set_cons_succ]
                  refine wpAnyH_take (i := 10) (oi := ({ dst := some 182, op := Op.move (Operand.tmp 192), type := 41, pos := "more.go:48", after := #[{ on := 9, ground := Ground.data }], guard := none } : Oper)) (v := ?av56) rfl (by kernel_rfl) (by kernel_rfl) (by kernel_rfl) (fun _ _ _ h => h) (Or.inl ⟨by rfl, ?ay56⟩) T55 ?_
                  case ay56 => (intro V hSw; go_simp; try with_reducible rfl)
                  try simp only [Act.put, List.setIfInBounds_toArray, List.set_cons_zero, List.set_cons_succ]
                  refine wpAnyH_take (i := 11) (oi := ({ dst := some 193, op := Op.extract (Operand.tmp 182) 0, type := 31, pos := "more.go:48", after := #[{ on := 10, ground := Ground.data }], guard := none } : Oper)) (v := ?av57) rfl (by kernel_rfl) (by kernel_rfl) (by kernel_rfl) (fun _ _ _ h => h) (Or.inl ⟨by rfl, ?ay57⟩) T55 ?_
                  case ay57 => (intro V hSw; go_simp; try with_reducible rfl)
                  try simp only [Act.put, List.setIfInBounds_toArray, List.set_cons_zero, List.set_cons_succ]
                  refine wpAnyH_take (i := 12) (oi := ({ dst := some 194, op := Op.extract (Operand.tmp 182) 1, type := 4, pos := "more.go:48", after := #[{ on := 10, ground := Ground.data }, { on := 14, ground := Ground.gcOnly Departure.lateStores }], guard := none } : Oper)) (v := ?av58) rfl (by kernel_rfl) (by kernel_rfl) (by kernel_rfl) (fun _ _ _ h => h) (Or.inl ⟨by rfl, ?ay58⟩) T55 ?_
                  case ay58 => (intro V hSw; go_simp; try with_reducible rfl)
                  try simp only [Act.put, List.setIfInBounds_toArray, List.set_cons_zero, List.set_cons_succ]
                  refine wpAnyH_ready (rs := [14]) (by kernel_rfl) (by simp) ?_
                  refine (AllReadyH.cons (o := _) rfl (fun K hK => ?_) AllReadyH.nil)
                  go_simp
                  have n0 := kcells_of nb 0
                  have n1 := kcells_of nb 1
                  have nf := kfree_of nb
                  go_simp
                  have NB := set2 nb (.int .i64 d) (.string t)
                  have T59 := (T55.setCell (p := ⟨V6x.heap.size, 0, none⟩) (Nat.le_refl _) (.int .i64 d)).setCell (p := ⟨V6x.heap.size, 1, none⟩) (Nat.le_refl _) (.string t)
                  try go_wp2_with fail
                  refine hK.out _ _ T59 (fun hS59 => ?_)
                  clear hK K
                  try simp only [Act.put, List.setIfInBounds_toArray, List.set_cons_zero, List.set_cons_succ]
                  refine wpAnyH_take (i := 15) (oi := ({ dst := some 28, op := Op.assign (Operand.tmp 194), type := 4, pos := "more.go:48", after := #[{ on := 12, ground := Ground.data }, { on := 14, ground := Ground.chain }, { on := 0, ground := Ground.phase }, { on := 1, ground := Ground.phase }, { on := 2, ground := Ground.phase }, { on := 3, ground := Ground.phase }, { on := 4, ground := Ground.phase }, { on := 5, ground := Ground.phase }, { on := 6, ground := Ground.phase }, { on := 7, ground := Ground.phase }, { on := 8, ground := Ground.phase }, { on := 9, ground := Ground.phase }, { on := 10, ground := Ground.phase }, { on := 11, ground := Ground.phase }, { on := 12, ground := Ground.phase }, { on := 13, ground := Ground.phase }, { on := 14, ground := Ground.phase }], guard := none } : Oper)) (v := ?av60) rfl (by kernel_rfl) (by kernel_rfl) (by kernel_rfl) (fun _ _ _ h => h) (Or.inl ⟨by rfl, ?ay60⟩) T59 ?_
                  case ay60 => (intro V hSw; go_simp; try with_reducible rfl)
                  try simp only [Act.put, List.setIfInBounds_toArray, List.set_cons_zero, List.set_cons_succ]
                  refine wpAnyH_done (by kernel_rfl) ?_ _
                  try go_wp2
                  go_meet
                  case rel => exact ⟨_, _, _, _, rfl, rfl, LL.out, T59, NB⟩
              obtain ⟨y2, dl2, tl2, ok2, rfl, rfl, hL, hb, hy⟩ := hcut
              obtain ⟨V7x, hV⟩ : ∃ x, x = wc := ⟨_, rfl⟩
              subst hV
              replace X := Lib.hid (X.out.trans (hb.mono X.out.size))
              replace Z := Lib.hid (Z.out.trans (hb.mono Z.out.size))
              replace Y1 := Lib.hid ((hb.block _ (lt_of_block Y1.out)).trans Y1.out)
              have LX2 := Lib.hid hL
              have Y2 := Lib.hid hy
              clear hL hy
              clear hb
              go_upto_region 31 with fail
              go_cut [225] (fun v wx => v = .bool false ∧ Below V7x.heap.size V7x wx)
              case first => as_aux_lemma =>
                have la := lubIs_alike GD.out GE.out AL.out.1 AL.out.2 (a := (d1, s1.data.toList)) (b := (d2, s2.data.toList))
                have ek : ok1 = ok2 := by rw [Bool.eq_iff_iff, LX1.out.hok, LX2.out.hok]; exact la.1
                subst ek
                have ed : dl1 = dl2 ∧ tl1 = tl2 := by
                  cases ok1 with
                  | true =>
                    refine pair_eq (LX1.out.heq rfl) ?_
                    rw [la.2]
                    exact LX2.out.heq rfl
                  | false => exact ⟨(LX1.out.hno rfl).1.trans (LX2.out.hno rfl).1.symm, (LX1.out.hno rfl).2.trans (LX2.out.hno rfl).2.symm⟩
                obtain ⟨ed1, ed2⟩ := ed
                subst ed1
                subst ed2
                clear la
                have ca0 := (X.out.cell (p := ⟨bt, ot + i2 * 2, none⟩) hbt).trans CA.out.1
                have ca1 := (X.out.cell (p := ⟨bt, ot + i2 * 2 + 1, none⟩) hbt).trans CA.out.2
                have cb0 := (X.out.cell (p := ⟨bt, ot + k * 2, none⟩) hbt).trans CB.out.1
                have cb1 := (X.out.cell (p := ⟨bt, ot + k * 2 + 1, none⟩) hbt).trans CB.out.2
                have hbtw : bt < V7x.heap.size := Nat.lt_of_lt_of_le hbt X.out.size
                have n10 : V7x.cell? ⟨y1, 0, none⟩ = some (.int .i64 dl1) := kcells_of Y1.out 0
                have n11 : V7x.cell? ⟨y1, 1, none⟩ = some (.string tl1) := kcells_of Y1.out 1
                have hl1 := lt_of_block Y1.out
                have n20 : V7x.cell? ⟨y2, 0, none⟩ = some (.int .i64 dl1) := kcells_of Y2.out 0
                have n21 : V7x.cell? ⟨y2, 1, none⟩ = some (.string tl1) := kcells_of Y2.out 1
                have hl2 := lt_of_block Y2.out
                have q1 : ∀ V : World, (binOp .neq 31 (.agg #[.int .i64 dl1, .string tl1]) (.agg #[.int .i64 dl1, .string tl1])).run Tryz.prog V = .ok (.bool false) V := fun V => (neq31 dl1 dl1 tl1 tl1 V).trans (by simp)
                have q2 : (ok1 != ok1) = false := by simp
                have T0 := (Below.refl V7x.heap.size V7x).drew
                refine wp_region_held_drew (S := fun V => Below V7x.heap.size V7x V) (by kernel_rfl) T0 (fun hS0 => ?_)
                refine wpAnyH_take (i := 0) (oi := ({ dst := some 195, op := Op.move (Operand.tmp 8), type := 32, pos := "more.go:49", after := #[], guard := none } : Oper)) (v := ?av61) rfl (by kernel_rfl) (by kernel_rfl) (by kernel_rfl) (fun _ _ _ h => h) (Or.inl ⟨by rfl, ?ay61⟩) T0 ?_
                case ay61 => (intro V hSw; go_simp; try with_reducible rfl)
                try simp only [Act.put, List.setIfInBounds_toArray, List.set_cons_zero, List.set_cons_succ]
                refine wpAnyH_take (i := 1) (oi := ({ dst := some 196, op := Op.move (Operand.tmp 22), type := 39, pos := "more.go:49", after := #[], guard := none } : Oper)) (v := ?av62) rfl (by kernel_rfl) (by kernel_rfl) (by kernel_rfl) (fun _ _ _ h => h) (Or.inl ⟨by rfl, ?ay62⟩) T0 ?_
                case ay62 => (intro V hSw; go_simp; try with_reducible rfl)
                try simp only [Act.put, List.setIfInBounds_toArray, List.set_cons_zero, List.set_cons_succ]
                refine wpAnyH_take (i := 2) (oi := ({ dst := some 197, op := Op.move (Operand.tmp 23), type := 3, pos := "more.go:49", after := #[], guard := none } : Oper)) (v := ?av63) rfl (by kernel_rfl) (by kernel_rfl) (by kernel_rfl) (fun _ _ _ h => h) (Or.inl ⟨by rfl, ?ay63⟩) T0 ?_
                case ay63 => (intro V hSw; go_simp; try with_reducible rfl)
                try simp only [Act.put, List.setIfInBounds_toArray, List.set_cons_zero, List.set_cons_succ]
                refine wpAnyH_take (i := 3) (oi := ({ dst := some 198, op := Op.indexAddr 39 (Operand.tmp 196) (Operand.tmp 197), type := 0, pos := "more.go:49", after := #[{ on := 1, ground := Ground.data }, { on := 2, ground := Ground.data }], guard := none } : Oper)) (v := ?av64) rfl (by kernel_rfl) (by kernel_rfl) (by kernel_rfl) (fun _ _ _ h => h) (Or.inl ⟨by rfl, ?ay64⟩) T0 ?_
                case ay64 => (intro V hSw; go_simp; try with_reducible rfl)
                try simp only [Act.put, List.setIfInBounds_toArray, List.set_cons_zero, List.set_cons_succ]
                refine wpAnyH_take (i := 4) (oi := ({ dst := some 199, op := Op.load 31 (Operand.tmp 198), type := 31, pos := "more.go:49", after := #[{ on := 3, ground := Ground.data }], guard := none } : Oper)) (v := ?av65) rfl (by kernel_rfl) (by kernel_rfl) (by kernel_rfl) (fun _ _ _ h => h) (Or.inl ⟨by rfl, ?ay65⟩) T0 ?_
                case ay65 => (intro V hSw; have e1 := (hSw.cell (p := ⟨bt, ot + i2 * 2, none⟩) hbtw).trans ca0; have e2 := (hSw.cell (p := ⟨bt, ot + i2 * 2 + 1, none⟩) hbtw).trans ca1; go_simp; try with_reducible rfl)
                try simp only [Act.put, List.setIfInBounds_toArray, List.set_cons_zero, List.set_cons_succ]
                refine wpAnyH_take (i := 5) (oi := ({ dst := some 200, op := Op.move (Operand.tmp 22), type := 39, pos := "more.go:49", after := #[], guard := none } : Oper)) (v := ?av66) rfl (by kernel_rfl) (by kernel_rfl) (by kernel_rfl) (fun _ _ _ h => h) (Or.inl ⟨by rfl, ?ay66⟩) T0 ?_
                case ay66 => (intro V hSw; go_simp; try with_reducible rfl)
                try simp only [Act.put, List.setIfInBounds_toArray, List.set_cons_zero, List.set_cons_succ]
                refine wpAnyH_take (i := 6) (oi := ({ dst := some 201, op := Op.move (Operand.tmp 24), type := 3, pos := "more.go:49", after := #[], guard := none } : Oper)) (v := ?av67) rfl (by kernel_rfl) (by kernel_rfl) (by kernel_rfl) (fun _ _ _ h => h) (Or.inl ⟨by rfl, ?ay67⟩) T0 ?_
                case ay67 => (intro V hSw; go_simp; try with_reducible rfl)
                try simp only [Act.put, List.setIfInBounds_toArray, List.set_cons_zero, List.set_cons_succ]
                refine wpAnyH_take (i := 7) (oi := ({ dst := some 202, op := Op.indexAddr 39 (Operand.tmp 200) (Operand.tmp 201), type := 0, pos := "more.go:49", after := #[{ on := 5, ground := Ground.data }, { on := 6, ground := Ground.data }], guard := none } : Oper)) (v := ?av68) rfl (by kernel_rfl) (by kernel_rfl) (by kernel_rfl) (fun _ _ _ h => h) (Or.inl ⟨by rfl, ?ay68⟩) T0 ?_
                case ay68 => (intro V hSw; go_simp; try with_reducible rfl)
                try simp only [Act.put, List.setIfInBounds_toArray, List.set_cons_zero, List.set_cons_succ]
                refine wpAnyH_take (i := 8) (oi := ({ dst := some 203, op := Op.load 31 (Operand.tmp 202), type := 31, pos := "more.go:49", after := #[{ on := 7, ground := Ground.data }], guard := none } : Oper)) (v := ?av69) rfl (by kernel_rfl) (by kernel_rfl) (by kernel_rfl) (fun _ _ _ h => h) (Or.inl ⟨by rfl, ?ay69⟩) T0 ?_
                case ay69 => (intro V hSw; have e1 := (hSw.cell (p := ⟨bt, ot + k * 2, none⟩) hbtw).trans cb0; have e2 := (hSw.cell (p := ⟨bt, ot + k * 2 + 1, none⟩) hbtw).trans cb1; go_simp; try with_reducible rfl)
                try simp only [Act.put, List.setIfInBounds_toArray, List.set_cons_zero, List.set_cons_succ]
                refine wpAnyH_take (i := 10) (oi := ({ dst := some 205, op := Op.move (Operand.tmp 11), type := 32, pos := "more.go:49", after := #[], guard := none } : Oper)) (v := ?av70) rfl (by kernel_rfl) (by kernel_rfl) (by kernel_rfl) (fun _ _ _ h => h) (Or.inl ⟨by rfl, ?ay70⟩) T0 ?_
                case ay70 => (intro V hSw; go_simp; try with_reducible rfl)
                try simp only [Act.put, List.setIfInBounds_toArray, List.set_cons_zero, List.set_cons_succ]
                refine wpAnyH_take (i := 11) (oi := ({ dst := some 206, op := Op.move (Operand.tmp 22), type := 39, pos := "more.go:49", after := #[], guard := none } : Oper)) (v := ?av71) rfl (by kernel_rfl) (by kernel_rfl) (by kernel_rfl) (fun _ _ _ h => h) (Or.inl ⟨by rfl, ?ay71⟩) T0 ?_
                case ay71 => (intro V hSw; go_simp; try with_reducible rfl)
                try simp only [Act.put, List.setIfInBounds_toArray, List.set_cons_zero, List.set_cons_succ]
                refine wpAnyH_take (i := 12) (oi := ({ dst := some 207, op := Op.move (Operand.tmp 23), type := 3, pos := "more.go:49", after := #[], guard := none } : Oper)) (v := ?av72) rfl (by kernel_rfl) (by kernel_rfl) (by kernel_rfl) (fun _ _ _ h => h) (Or.inl ⟨by rfl, ?ay72⟩) T0 ?_
                case ay72 => (intro V hSw; go_simp; try with_reducible rfl)
                try simp only [Act.put, List.setIfInBounds_toArray, List.set_cons_zero, List.set_cons_succ]
                refine wpAnyH_take (i := 13) (oi := ({ dst := some 208, op := Op.indexAddr 39 (Operand.tmp 206) (Operand.tmp 207), type := 0, pos := "more.go:49", after := #[{ on := 11, ground := Ground.data }, { on := 12, ground := Ground.data }], guard := none } : Oper)) (v := ?av73) rfl (by kernel_rfl) (by kernel_rfl) (by kernel_rfl) (fun _ _ _ h => h) (Or.inl ⟨by rfl, ?ay73⟩) T0 ?_
                case ay73 => (intro V hSw; go_simp; try with_reducible rfl)
                try simp only [Act.put, List.setIfInBounds_toArray, List.set_cons_zero, List.set_cons_succ]
                refine wpAnyH_take (i := 14) (oi := ({ dst := some 209, op := Op.load 31 (Operand.tmp 208), type := 31, pos := "more.go:49", after := #[{ on := 13, ground := Ground.data }], guard := none } : Oper)) (v := ?av74) rfl (by kernel_rfl) (by kernel_rfl) (by kernel_rfl) (fun _ _ _ h => h) (Or.inl ⟨by rfl, ?ay74⟩) T0 ?_
                case ay74 => (intro V hSw; have e1 := (hSw.cell (p := ⟨bt, ot + i2 * 2, none⟩) hbtw).trans ca0; have e2 := (hSw.cell (p := ⟨bt, ot + i2 * 2 + 1, none⟩) hbtw).trans ca1; go_simp; try with_reducible rfl)
                try simp only [Act.put, List.setIfInBounds_toArray, List.set_cons_zero, List.set_cons_succ]
                refine wpAnyH_take (i := 15) (oi := ({ dst := some 210, op := Op.move (Operand.tmp 22), type := 39, pos := "more.go:49", after := #[], guard := none } : Oper)) (v := ?av75) rfl (by kernel_rfl) (by kernel_rfl) (by kernel_rfl) (fun _ _ _ h => h) (Or.inl ⟨by rfl, ?ay75⟩) T0 ?_
                case ay75 => (intro V hSw; go_simp; try with_reducible rfl)
                try simp only [Act.put, List.setIfInBounds_toArray, List.set_cons_zero, List.set_cons_succ]
                refine wpAnyH_take (i := 16) (oi := ({ dst := some 211, op := Op.move (Operand.tmp 24), type := 3, pos := "more.go:49", after := #[], guard := none } : Oper)) (v := ?av76) rfl (by kernel_rfl) (by kernel_rfl) (by kernel_rfl) (fun _ _ _ h => h) (Or.inl ⟨by rfl, ?ay76⟩) T0 ?_
                case ay76 => (intro V hSw; go_simp; try with_reducible rfl)
                try simp only [Act.put, List.setIfInBounds_toArray, List.set_cons_zero, List.set_cons_succ]
                refine wpAnyH_take (i := 17) (oi := ({ dst := some 212, op := Op.indexAddr 39 (Operand.tmp 210) (Operand.tmp 211), type := 0, pos := "more.go:49", after := #[{ on := 15, ground := Ground.data }, { on := 16, ground := Ground.data }], guard := none } : Oper)) (v := ?av77) rfl (by kernel_rfl) (by kernel_rfl) (by kernel_rfl) (fun _ _ _ h => h) (Or.inl ⟨by rfl, ?ay77⟩) T0 ?_
                case ay77 => (intro V hSw; go_simp; try with_reducible rfl)
                try simp only [Act.put, List.setIfInBounds_toArray, List.set_cons_zero, List.set_cons_succ]
                refine wpAnyH_take (i := 18) (oi := ({ dst := some 213, op := Op.load 31 (Operand.tmp 212), type := 31, pos := "more.go:49", after := #[{ on := 17, ground := Ground.data }], guard := none } : Oper)) (v := ?av78) rfl (by kernel_rfl) (by kernel_rfl) (by kernel_rfl) (fun _ _ _ h => h) (Or.inl ⟨by rfl, ?ay78⟩) T0 ?_
                case ay78 => (intro V hSw; have e1 := (hSw.cell (p := ⟨bt, ot + k * 2, none⟩) hbtw).trans cb0; have e2 := (hSw.cell (p := ⟨bt, ot + k * 2 + 1, none⟩) hbtw).trans cb1; go_simp; try with_reducible rfl)
                try simp only [Act.put, List.setIfInBounds_toArray, List.set_cons_zero, List.set_cons_succ]
                refine wpAnyH_ready (rs := [9]) (by kernel_rfl) (by simp) ?_
                refine (AllReadyH.cons (o := _) rfl (fun K hK => ?_) AllReadyH.nil)
                go_simp
                go_at_call 23
                refine (Sub_any (HT.out.below ((X.out.trans (T0.mono X.out.size)).mono HT.out.hB)) (by exact hz1) (by exact hz2)).mono ?_
                rintro e P79 ⟨r1, rfl, hr1, hb79⟩
                have HR1 := Lib.hid hr1
                have T79 := T0.trans (hb79.mono T0.size)
                clear hr1
                try go_wp2_with fail
                refine hK.out _ _ T79 (fun hS79 => ?_)
                clear hK K
                try simp only [Act.put, List.setIfInBounds_toArray, List.set_cons_zero, List.set_cons_succ]
                refine wpAnyH_ready (rs := [19]) (by kernel_rfl) (by simp) ?_
                refine (AllReadyH.cons (o := _) rfl (fun K hK => ?_) AllReadyH.nil)
                go_simp
                go_at_call 23
                refine (Sub_any (HTU.out.below ((X.out.trans (T79.mono X.out.size)).mono HTU.out.hB)) (by exact hz1) (by exact hz2)).mono ?_
                rintro e P80 ⟨r2, rfl, hr2, hb80⟩
                obtain rfl : r1 = r2 := by rw [Bool.eq_iff_iff, HR1.out, hr2]; exact alike_sub GD.out GE.out AL.out.1 AL.out.2
                have q3 : (r1 != r1) = false := by simp
                have T80 := T79.trans (hb80.mono T79.size)
                clear hr2
                try go_wp2_with fail
                refine hK.out _ _ T80 (fun hS80 => ?_)
                clear hK K
                try simp only [Act.put, List.setIfInBounds_toArray, List.set_cons_zero, List.set_cons_succ]
                refine wpAnyH_take (i := 20) (oi := ({ dst := some 215, op := Op.binOp BinOp.neq 4 (Operand.tmp 204) (Operand.tmp 214) 4, type := 4, pos := "more.go:49", after := #[{ on := 9, ground := Ground.data }, { on := 19, ground := Ground.data }], guard := none } : Oper)) (v := ?av81) rfl (by kernel_rfl) (by kernel_rfl) (by kernel_rfl) (fun _ _ _ h => h) (Or.inl ⟨by rfl, ?ay81⟩) T80 ?_
                case ay81 => (intro V hSw; go_simp; try with_reducible rfl)
                try simp only [Act.put, List.setIfInBounds_toArray, List.set_cons_zero, List.set_cons_succ]
                refine wpAnyH_take (i := 21) (oi := ({ dst := some 216, op := Op.move (Operand.tmp 215), type := 4, pos := "more.go:49", after := #[{ on := 20, ground := Ground.data }, { on := 19, ground := Ground.chain }], guard := none } : Oper)) (v := ?av82) rfl (by kernel_rfl) (by kernel_rfl) (by kernel_rfl) (fun _ _ _ h => h) (Or.inl ⟨by rfl, ?ay82⟩) T80 ?_
                case ay82 => (intro V hSw; go_simp; try with_reducible rfl)
                try simp only [Act.put, List.setIfInBounds_toArray, List.set_cons_zero, List.set_cons_succ]
                refine wpAnyH_take (i := 22) (oi := ({ dst := some 217, op := Op.load 31 (Operand.tmp 25), type := 31, pos := "more.go:49", after := #[{ on := 21, ground := Ground.guard }], guard := some (21, false) } : Oper)) (v := ?av83) rfl (by kernel_rfl) (by kernel_rfl) (by kernel_rfl) (fun _ _ _ h => h) (Or.inl ⟨by rfl, ?ay83⟩) T80 ?_
                case ay83 => (intro V hSw; have e1 := (hSw.cell (p := ⟨y1, 0, none⟩) hl1).trans n10; have e2 := (hSw.cell (p := ⟨y1, 1, none⟩) hl1).trans n11; go_simp; try with_reducible rfl)
                try simp only [Act.put, List.setIfInBounds_toArray, List.set_cons_zero, List.set_cons_succ]
                refine wpAnyH_take (i := 23) (oi := ({ dst := some 218, op := Op.load 31 (Operand.tmp 27), type := 31, pos := "more.go:49", after := #[{ on := 21, ground := Ground.guard }], guard := some (21, false) } : Oper)) (v := ?av84) rfl (by kernel_rfl) (by kernel_rfl) (by kernel_rfl) (fun _ _ _ h => h) (Or.inl ⟨by rfl, ?ay84⟩) T80 ?_
                case ay84 => (intro V hSw; have e1 := (hSw.cell (p := ⟨y2, 0, none⟩) hl2).trans n20; have e2 := (hSw.cell (p := ⟨y2, 1, none⟩) hl2).trans n21; go_simp; try with_reducible rfl)
                try simp only [Act.put, List.setIfInBounds_toArray, List.set_cons_zero, List.set_cons_succ]
                refine wpAnyH_take (i := 24) (oi := ({ dst := some 219, op := Op.binOp BinOp.neq 31 (Operand.tmp 217) (Operand.tmp 218) 31, type := 4, pos := "more.go:49", after := #[{ on := 22, ground := Ground.data }, { on := 23, ground := Ground.data }, { on := 21, ground := Ground.guard }], guard := some (21, false) } : Oper)) (v := ?av85) rfl (by kernel_rfl) (by kernel_rfl) (by kernel_rfl) (fun _ _ _ h => h) (Or.inl ⟨by rfl, ?ay85⟩) T80 ?_
                case ay85 => (intro V hSw; go_simp; try with_reducible rfl)
                try simp only [Act.put, List.setIfInBounds_toArray, List.set_cons_zero, List.set_cons_succ]
                refine wpAnyH_take (i := 25) (oi := ({ dst := some 220, op := Op.pick (Operand.tmp 216) (Operand.const (Value.bool true)) (Operand.tmp 219), type := 4, pos := "more.go:49", after := #[{ on := 21, ground := Ground.data }, { on := 24, ground := Ground.data }], guard := none } : Oper)) (v := ?av86) rfl (by kernel_rfl) (by kernel_rfl) (by kernel_rfl) (fun _ _ _ h => h) (Or.inl ⟨by rfl, ?ay86⟩) T80 ?_
                case ay86 => (intro V hSw; go_simp; try with_reducible rfl)
                try simp only [Act.put, List.setIfInBounds_toArray, List.set_cons_zero, List.set_cons_succ]
                refine wpAnyH_take (i := 26) (oi := ({ dst := some 221, op := Op.move (Operand.tmp 220), type := 4, pos := "more.go:49", after := #[{ on := 25, ground := Ground.data }, { on := 21, ground := Ground.chain }], guard := none } : Oper)) (v := ?av87) rfl (by kernel_rfl) (by kernel_rfl) (by kernel_rfl) (fun _ _ _ h => h) (Or.inl ⟨by rfl, ?ay87⟩) T80 ?_
                case ay87 => (intro V hSw; go_simp; try with_reducible rfl)
                try simp only [Act.put, List.setIfInBounds_toArray, List.set_cons_zero, List.set_cons_succ]
                refine wpAnyH_take (i := 27) (oi := ({ dst := some 222, op := Op.move (Operand.tmp 26), type := 4, pos := "more.go:49", after := #[{ on := 26, ground := Ground.guard }], guard := some (26, false) } : Oper)) (v := ?av88) rfl (by kernel_rfl) (by kernel_rfl) (by kernel_rfl) (fun _ _ _ h => h) (Or.inl ⟨by rfl, ?ay88⟩) T80 ?_
                case ay88 => (intro V hSw; go_simp; try with_reducible rfl)
                try simp only [Act.put, List.setIfInBounds_toArray, List.set_cons_zero, List.set_cons_succ]
                refine wpAnyH_take (i := 28) (oi := ({ dst := some 223, op := Op.move (Operand.tmp 28), type := 4, pos := "more.go:49", after := #[{ on := 26, ground := Ground.guard }], guard := some (26, false) } : Oper)) (v := ?av89) rfl (by kernel_rfl) (by kernel_rfl) (by kernel_rfl) (fun _ _ _ h => h) (Or.inl ⟨by rfl, ?ay89⟩) T80 ?_
                case ay89 => (intro V hSw; go_simp; try with_reducible rfl)
                try simp only [Act.put, List.setIfInBounds_toArray, List.set_cons_zero, List.set_cons_succ]
                refine wpAnyH_take (i := 29) (oi := ({ dst := some 224, op := Op.binOp BinOp.neq 4 (Operand.tmp 222) (Operand.tmp 223) 4, type := 4, pos := "more.go:49", after := #[{ on := 27, ground := Ground.data }, { on := 28, ground := Ground.data }, { on := 26, ground := Ground.guard }], guard := some (26, false) } : Oper)) (v := ?av90) rfl (by kernel_rfl) (by kernel_rfl) (by kernel_rfl) (fun _ _ _ h => h) (Or.inl ⟨by rfl, ?ay90⟩) T80 ?_
                case ay90 => (intro V hSw; go_simp; try with_reducible rfl)
                try simp only [Act.put, List.setIfInBounds_toArray, List.set_cons_zero, List.set_cons_succ]
                refine wpAnyH_take (i := 30) (oi := ({ dst := some 225, op := Op.pick (Operand.tmp 221) (Operand.const (Value.bool true)) (Operand.tmp 224), type := 4, pos := "more.go:49", after := #[{ on := 26, ground := Ground.data }, { on := 29, ground := Ground.data }], guard := none } : Oper)) (v := ?av91) rfl (by kernel_rfl) (by kernel_rfl) (by kernel_rfl) (fun _ _ _ h => h) (Or.inl ⟨by rfl, ?ay91⟩) T80 ?_
                case ay91 => (intro V hSw; go_simp; try with_reducible rfl)
                try simp only [Act.put, List.setIfInBounds_toArray, List.set_cons_zero, List.set_cons_succ]
                refine wpAnyH_done (by kernel_rfl) ?_ _
                try go_wp2
                go_meet
                case rel => exact ⟨rfl, T80⟩
              obtain ⟨rfl, hb⟩ := hcut
              obtain ⟨V8x, hV⟩ : ∃ x, x = wc := ⟨_, rfl⟩
              subst hV
              replace X := Lib.hid (X.out.trans (hb.mono X.out.size))
              replace Z := Lib.hid (Z.out.trans (hb.mono Z.out.size))
              replace Y1 := Lib.hid ((hb.block _ (lt_of_block Y1.out)).trans Y1.out)
              replace Y2 := Lib.hid ((hb.block _ (lt_of_block Y2.out)).trans Y2.out)
              clear hb
              go_wp2
              go_roundg (g2 - 1)
              case measure => exact hg3
              case rel => exact ⟨k + 1, by go_num, by omega, Z.out⟩
            · have hkq2 : q ≤ k := by omega
              clear hkq
              go_wp2
              go_roundg (g1 - 1)
              case measure => exact hg2
              case rel => exact ⟨i2 + 1, by go_num, by omega, X.out⟩
        · have hiq2 : q ≤ i2 := by omega
          have BZ := Lib.hid (BW.out.trans ((XT.out.trans (X.out.mono XT.out.size)).mono BW.out.size))
          clear hiq
          go_wp2
          go_ret
          exact ⟨rfl, BZ.out⟩
end Go.Proofs.YtmaknddlgppinaaGreatDoor
