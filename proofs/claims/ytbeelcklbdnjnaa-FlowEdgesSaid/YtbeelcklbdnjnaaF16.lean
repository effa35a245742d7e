/-
  WALK of the document's own Reach.
-/
import Derived.Test.YtbeelcklbdnjnaaF15
import Derived.Test.YtbeelcklbdnjnaaFs
import Derived.Test.YtbeelcklbdnjnaaAs
import Derived.Deep.DeepCutAuto
set_option linter.unusedVariables false
set_option linter.unusedSimpArgs false
namespace Go.Proofs.Ytbeelcklbdnjnaa
open Go.RowKit

set_option maxRecDepth 1000000 in
set_option maxHeartbeats 6400000 in
theorem refReach_any (B n : Nat) (l : List In) (hs : List Hd) (v hv : Value) (w : World) (hr : NRow B w v l) (hh : HRow B w hv hs) (hB : B ≤ w.heap.size) (ho : Ord n l) (hn : n ≤ 1000000) (hl : l.length ≤ 1000000) (hm : hs.length ≤ 1000000) :
    Calls Try.prog 19 #[v, .int .i64 n, hv] w fun e w' => ∃ u rb, e = .returned (.tuple #[u, .int .i64 (covE l n hs)]) ∧ w'.ownsRow w.heap.size 4 1 u rb.length (bcells rb) ∧ ReachIs l n hs rb ∧ Below w.heap.size w w' := by
  have hl0 : 0 < l.length := List.length_pos_iff.2 ho.ne
  have HR := Lib.hid hr
  have HH := Lib.hid hh
  have HC := Lib.hid (refCover_any B n l hs v hv w hr hh hB hl hm)
  obtain ⟨A, c, rfl, hc, hml⟩ := hr.form
  obtain ⟨A2, c2, rfl, hc2, hml2⟩ := hh.form
  have HO := Lib.hid ho
  unfold maxLen at hml hml2
  clear hr ho hh
  obtain ⟨f, hf⟩ : ∃ f, covE l n hs = f := ⟨_, rfl⟩
  rw [hf] at HC
  have HFE := Lib.hid hf
  rw [hf]
  clear hf
  go_enter Try.func19, Try.ntmps19
  go_wp2_with fail
  refine HC.out.mono ?_
  rintro e w1 ⟨u, rfl, hlo, hb1⟩
  have hsz1 := hb1.size
  by_cases hz : f = 0
  · subst hz
    have hca : covA l n hs = covL l hs := by unfold covA; rw [if_pos HFE.out]
    rw [hca] at hlo
    have HLO := Lib.hid hlo.row
    have HB1 := Lib.hid hb1
    have hlc := hlo.form
    rw [show (covL l hs).length = l.length by simp [covL]] at hlc
    obtain ⟨ac, cc, rfl⟩ := hlc
    have HSU := Lib.hid (refSucc_any B n l _ w1 (HR.out.below hb1 hB) (by omega) HO.out hl)
    clear hlo hb1 HC hca
    go_wp2_with fail
    refine HSU.out.mono ?_
    rintro e w2 ⟨us, rfl, hls, hb2⟩
    have hsz2 := hb2.size
    have HLS := Lib.hid hls.row
    have HB2 := Lib.hid (Below.link HB1.out hb2)
    have HLO2 := Lib.hid ((HLO.out.below hb2 (Nat.le_refl _)).more hsz2)
    have hlc := hls.form
    rw [succL_len] at hlc
    obtain ⟨as_, cs, rfl⟩ := hlc
    have HST := Lib.hid (refStarts_any B l hs _ _ w2 (HR.out.below HB2.out hB) (HH.out.below HB2.out hB) (by omega) hm)
    clear hls hb2 HSU HLO
    go_wp2_with fail
    refine HST.out.mono ?_
    rintro e w3 ⟨ut, rfl, hlt, hb3⟩
    have hsz3 := hb3.size
    have HLT := Lib.hid (Row.of_own hlt : IRow _ _ _ _)
    have HB3 := Lib.hid (Below.link HB2.out hb3)
    have HLO3 := Lib.hid ((HLO2.out.below hb3 (Nat.le_refl _)).more hsz3)
    have HLS3 := Lib.hid ((HLS.out.below hb3 (Nat.le_refl _)).more hsz3)
    obtain ⟨at_, ct, rfl⟩ := hlt.form
    clear hlt hb3 HST HLO2 HLS
    obtain ⟨w4, hmk, hrow, hb4⟩ := make_row w3 36 4 (.bool false) 1 l.length (by kernel_rfl) mk4 rfl hl (by omega)
    have hol := lt_of_block hrow
    have cz := cells_of hrow 0
    have fz := free_of hrow
    have cz' : (List.replicate l.length (Value.bool false)).toArray[0]? = some (.bool false) := by simp [hl0]
    rw [cz'] at cz
    have HBX := Lib.hid (show Below w3.heap.size w3 (w4.setCell ⟨w3.heap.size, 0, none⟩ (.bool true)) from hb4.setCell (Nat.le_refl _) _)
    have hb0 : w4.heap[w3.heap.size]? = some (.cells (bcells (List.replicate l.length false)).toArray 4 (0, 0)) := by rw [hrow]; simp [bcells]
    have HRX := Lib.hid (show (w4.setCell ⟨w3.heap.size, 0, none⟩ (.bool true)).heap[w3.heap.size]? = some (.cells (bcells ((List.replicate l.length false).set 0 true)).toArray 4 (0, 0)) by
      have := set_row (u := .bool true) (k := 0) hb0 (by simp [bcells]; exact hl0)
      rw [this, bcells_set])
    have HT0 := Lib.hid (Turns.start (N := nxtP l hs) hl0)
    have hl0i : (0 : Int) < (l.length : Int) := by omega
    clear hrow hb4 cz' hb0
    go_wp2
    clear hmk cz fz
    obtain ⟨rb, hrb⟩ : ∃ x, x = w3.heap.size := ⟨_, rfl⟩
    rw [← hrb] at HRX
    try rw [← hrb]
    have hrb3 : w3.heap.size ≤ rb := by omega
    have HRB := Lib.hid hrb
    clear hrb
    obtain ⟨i0, hi0, hz0, hz1, hz2⟩ := info3
    go_loopw [13, 14] (fun m t wx => ∃ (b : List Bool) (mb : Bool) (tt : Nat), m = .bool mb ∧ t = .int .i64 tt ∧ Turns (nxtP l hs) l.length b mb tt ∧ wx.heap[rb]? = some (.cells (bcells b).toArray 4 (0, 0)) ∧ Below w3.heap.size w3 wx) (fun m t _ => match m with | .bool true => l.length + 1 - (intOf t).toNat | _ => 0)
    case atStart => exact ⟨_, true, 0, rfl, rfl, HT0.out, HRX.out, by rw [HRB.out]; exact HBX.out⟩
    case round =>
      clear HT0 HRX HBX
      obtain ⟨b, mb, tt, rfl, rfl, htu, hrow, hbel⟩ := hrel
      have HTU := Lib.hid htu
      have HROW := Lib.hid hrow
      have HBEL := Lib.hid hbel
      have hszw := hbel.size
      cases mb with
      | false =>
        clear htu hrow hbel
        go_wp2
        go_ret2
        have hbl := HTU.out.len
        refine ⟨.slice (some ⟨rb, 0, none⟩) l.length l.length, b, rfl, ?_, ⟨fun _ => HTU.out.done, fun h => absurd HFE.out h⟩, HB3.out.trans (HBEL.out.mono (by omega))⟩
        have := own_new (base := w.heap.size) (size := 1) (n := l.length) HROW.out (by omega) (by simp [bcells, hbl]) (by unfold maxLen; omega)
        rw [hbl]
        exact this
      | true =>
        have hty := htu.yes rfl
        have htl : tt ≤ l.length := by omega
        have HTY := Lib.hid hty
        clear htu hrow hbel hty
        go_wp2
        obtain ⟨wq, hwq⟩ : ∃ z, z = wr := ⟨_, rfl⟩
        subst hwq
        go_loopw [13, 15] (fun m i wx => ∃ (b2 : List Bool) (mm : Bool) (ii : Nat), ii ≤ l.length ∧ m = .bool mm ∧ i = .int .i64 ii ∧ Sw (nxtP l hs) l.length b b2 mm ii [] ∧ wx.heap[rb]? = some (.cells (bcells b2).toArray 4 (0, 0)) ∧ Below w3.heap.size w3 wx) (fun _ i _ => l.length - (intOf i).toNat)
        case atStart => exact ⟨b, false, 0, Nat.zero_le _, rfl, rfl, HTU.out.sweep, HROW.out, HBEL.out⟩
        case round =>
          clear HROW HBEL hszw
          obtain ⟨b2, mm, i, hi, rfl, rfl, hsw, hrow, hbel⟩ := hrel
          have HSW := Lib.hid hsw
          have HROW := Lib.hid hrow
          have HBEL := Lib.hid hbel
          have hszw := hbel.size
          have hrl := lt_of_block hrow
          by_cases hil : i < l.length
          · obtain ⟨q, hq⟩ : ∃ q, b2[i]? = some q := ⟨_, List.getElem?_eq_getElem (by rw [hsw.len]; exact hil)⟩
            have HQ := Lib.hid hq
            have c0 := cells_of hrow i
            have c0' : (bcells b2).toArray[i]? = some (.bool q) := by simp [bcells, hq]
            rw [c0'] at c0
            cases q with
            | false =>
              clear hsw hrow hbel hq c0'
              go_wp2
              go_roundw
              case rel => exact ⟨b2, mm, i + 1, by omega, rfl, by go_num, HSW.out.pass HQ.out, HROW.out, HBEL.out⟩
              case measure => simp [intOf]; omega
            | true =>
              have hx := List.getElem?_eq_getElem hil
              generalize l[i] = y at hx
              have HX := Lib.hid hx
              have s1 := HLS3.out.at_ (succL_at hx)
              have s2 := HLO3.out.at_ (covL_at (hs := hs) hx)
              obtain ⟨bs, os, As, cs1, rfl, hbs, hrs, cs2⟩ := s1
              obtain ⟨bc, oc, Ac, cc1, rfl, hbc, hrc, cc2⟩ := s2
              have HC2 := Lib.hid cc2
              replace cs2 := (hbel.cell (p := ⟨bs, os + i, none⟩) hbs).trans cs2
              have HRS := Lib.hid hrs
              have HRC := Lib.hid hrc
              have HNX := Lib.hid (nxtP_eq (hs := hs) hx)
              have hsl := len_sucP l i y
              have hfew := HO.out.few y (List.mem_of_getElem? hx)
              have hcl := len_covP hs y.pc
              have hbsw : bs < wr.heap.size := by omega
              obtain ⟨M, hM⟩ : ∃ M, (covP hs y.pc).map (fun h => (staL l hs).getD h.toNat (-1)) = M := ⟨_, rfl⟩
              have HM := Lib.hid hM
              have hMl : M.length = (covP hs y.pc).length := by rw [← hM, List.length_map]
              rw [hM] at HNX
              obtain ⟨S, hS⟩ : ∃ S, sucP l i y = S := ⟨_, rfl⟩
              have HS := Lib.hid hS
              rw [hS] at HNX HRS hsl cs2
              have HRW := HRS.out.below hbel (Nat.le_refl _)
              have HSRC := Lib.hid (IRow.src HRW)
              have HNEWS := Lib.hid (IRow.news (o := .cells #[] 3) HRW (by omega))
              have HO1 := Lib.hid (own_new (e := 3) (size := 1) (n := 0) (base := wr.heap.size) (cs := []) (heap_new wr (.cells #[] 3)) (Nat.le_refl _) rfl (by decide))
              have HML := Lib.hid hMl
              clear hsw hrow hbel hq c0' hx hrs hrc cc2 hM hS HRW hMl
              go_wp2_with (at_builtin; refine wpList_append_own_src rfl (.tmp 62) (.tmp 66) 34 rfl wr.heap.size 3 i0 (.int .i64 0) 1 8 Try.underlying34 hi0 hz0 hz1 hz2 rfl (by decide) (.slice (some ⟨wr.heap.size, 0, none⟩) 0 0) 0 [] rfl HO1.out As S.length cs1 (icells S) rfl (by rw [icells_length, Nat.mul_one]) HSRC.out HNEWS.out (int_cells .i64 _) (by unfold maxLen; omega) (by omega) (by simp) ?_)
              intro v5 w5 own5 hg5
              have HO5 := Lib.hid (show IOwn w5 wr.heap.size v5 S by
                unfold IOwn
                simpa using own5)
              have HB5 := Lib.hid (((Below.refl wr.heap.size wr).alloc (Nat.le_refl _) (.cells #[] 3)).grown hg5 (by simp) (fun k hk => own_block_ge HO1.out k hk))
              obtain ⟨a5, c5, rfl⟩ := HO5.out.form
              clear own5 hg5 cs2 c0
              go_wp2
              obtain ⟨wo, hwo⟩ : ∃ z, z = wr := ⟨_, rfl⟩
              subst hwo
              go_loopw [16, 17] (fun nv u wx => ∃ k : Nat, k ≤ (covP hs y.pc).length ∧ u = .int .i64 k ∧ IOwn wx wo.heap.size nv (S ++ M.take k) ∧ Below wo.heap.size wo wx) (fun _ u _ => (covP hs y.pc).length - (intOf u).toNat)
              case atStart => exact ⟨0, Nat.zero_le _, rfl, by simpa using HO5.out, HB5.out⟩
              case round =>
                clear HO5 HB5
                obtain ⟨k, hk, rfl, hno, hbn⟩ := hrel
                have HNO := Lib.hid hno
                have HBN := Lib.hid hbn
                have hszn := hbn.size
                obtain ⟨an, cn, rfl⟩ := hno.form
                have hbel3 := HBEL.out.trans (hbn.mono hszw)
                have HB3W := Lib.hid hbel3
                have cc2 := (hbel3.cell (p := ⟨bc, oc + i, none⟩) hbc).trans HC2.out
                have hbcw : bc < wr.heap.size := by omega
                have hln : (S ++ M.take k).length ≤ 2000000 := by rw [List.length_append, List.length_take, HML.out]; omega
                clear hno hbn hbel3
                by_cases hkl2 : k < (covP hs y.pc).length
                · have hj := List.getElem?_eq_getElem hkl2
                  generalize (covP hs y.pc)[k] = j at hj
                  have hjm := List.mem_of_getElem? hj
                  obtain ⟨q, hd, hq, rfl, _⟩ := mem_covP.1 hjm
                  obtain ⟨m, hm1, hm2⟩ := sta_in HFE.out hq
                  have hsq : (staL l hs)[q]? = some (m : Int) := by simp [staL, hq, hm1]
                  have hqs : q < (staL l hs).length := (List.getElem?_eq_some_iff.1 hsq).1
                  obtain ⟨b7, o7, rfl, hb7, ct0⟩ := (HRC.out.below HB3W.out (Nat.le_refl _)).at_ hj
                  obtain ⟨b4, o4, rfl, hb4, ct4⟩ := (IRow.below HLT.out HB3W.out (Nat.le_refl _)).at_ hsq
                  have hMk : M[k]? = some (m : Int) := by
                    rw [← HM.out, List.getElem?_map, hj]
                    simp [getD_of hsq]
                    try (rw [hsq]; rfl)
                  have HMK := Lib.hid (show S ++ M.take (k + 1) = (S ++ M.take k) ++ [(m : Int)] by rw [List.take_add_one, hMk]; simp)
                  have hb7w : b7 < wr.heap.size := by omega
                  have hb4w : b4 < wr.heap.size := by omega
                  obtain ⟨nk, hnk⟩ : ∃ nk, S ++ M.take k = nk := ⟨_, rfl⟩
                  rw [hnk] at HNO HMK hln ⊢
                  clear hj hjm hMk hsq hm1 hq hnk
                  go_wp2_with (at_builtin; refine wpList_append_own2 rfl (.tmp 77) (.tmp 88) 34 rfl wo.heap.size 3 i0 (.int .i64 0) 1 8 Try.underlying34 hi0 hz0 hz1 hz2 rfl (by decide) (.slice an nk.length cn) nk.length (icells nk) rfl (World.ownsRow.alloc HNO.out _) ⟨_, 0, none⟩ 1 1 [.int .i64 (m : Int)] rfl rfl (new_at _ [.int .i64 (m : Int)] 3 _ rfl) (int_cells .i64 [(m : Int)]) (by unfold maxLen; omega) (by omega) (by simp; omega) ?_)
                  intro v6 w6 own6 hg6 hm6
                  have HO6 := Lib.hid own6
                  have HB6 := Lib.hid ((HBN.out.alloc hszn (.cells #[.int .i64 (m : Int)] 3)).grown hg6 (by simp; omega) (fun k hk => own_block_ge HNO.out k hk))
                  obtain ⟨a6, c6, rfl⟩ := own_form own6
                  clear own6 hg6 hm6
                  go_wp2
                  go_roundw
                  case rel => exact ⟨k + 1, by omega, by go_num, by rw [HMK.out]; exact IOwn.more HO6.out rfl rfl, HB6.out⟩
                  case measure => simp [intOf]; omega
                · have HTK := Lib.hid (show S ++ M.take k = nxtP l hs i by rw [HNX.out, List.take_of_length_le (by rw [HML.out]; omega)])
                  obtain ⟨N, hN⟩ : ∃ N, nxtP l hs i = N := ⟨_, rfl⟩
                  have HN := Lib.hid hN
                  rw [hN] at HTK
                  obtain ⟨nk, hnk⟩ : ∃ nk, S ++ M.take k = nk := ⟨_, rfl⟩
                  rw [hnk] at HNO HTK hln ⊢
                  obtain rfl := HTK.out
                  have HROW2 := Lib.hid ((HBN.out.block _ hrl).trans HROW.out)
                  have HNIN := Lib.hid (show ∀ j ∈ nk, ∃ m : Nat, j = (m : Int) ∧ m < l.length from fun j hj => by
                    rw [← hN, HNX.out] at hj
                    rcases List.mem_append.1 hj with h | h
                    · rw [← HS.out] at h
                      exact sucP_in HO.out HX.out h
                    · rw [← HM.out] at h
                      obtain ⟨a, ha, rfl⟩ := List.mem_map.1 h
                      obtain ⟨q, hd, hq, rfl, _⟩ := mem_covP.1 ha
                      obtain ⟨m, hm1, hm2⟩ := sta_in HFE.out hq
                      exact ⟨m, by simp [staL, hq, hm1], hm2⟩)
                  clear hnk hN
                  go_wp2
                  obtain ⟨wp, hwp⟩ : ∃ z, z = wr := ⟨_, rfl⟩
                  subst hwp
                  go_loopw [13, 18] (fun m u wx => ∃ (k : Nat) (b3 : List Bool) (m3 : Bool), k ≤ nk.length ∧ m = .bool m3 ∧ u = .int .i64 k ∧ Sw (nxtP l hs) l.length b b3 m3 i (nk.take k) ∧ b3[i]? = some true ∧ wx.heap[rb]? = some (.cells (bcells b3).toArray 4 (0, 0)) ∧ IOwn wx wo.heap.size (.slice an nk.length cn) nk ∧ Below w3.heap.size w3 wx) (fun _ u _ => nk.length - (intOf u).toNat)
                  case atStart => exact ⟨0, b2, mm, Nat.zero_le _, rfl, rfl, HSW.out, HQ.out, HROW2.out, HNO.out, HB3W.out⟩
                  case round =>
                    clear HROW2 HNO HB3W HBN hszn hbcw
                    obtain ⟨k2, b3, m3, hk2, rfl, rfl, hsw3, hb3i, hrow3, hno3, hbel3⟩ := hrel
                    have HSW3 := Lib.hid hsw3
                    have HB3I := Lib.hid hb3i
                    have HROW3 := Lib.hid hrow3
                    have HNO3 := Lib.hid hno3
                    have HBEL3 := Lib.hid hbel3
                    have hszw3 := hbel3.size
                    by_cases hkl3 : k2 < nk.length
                    · have hj := List.getElem?_eq_getElem hkl3
                      generalize nk[k2] = j at hj
                      obtain ⟨m, rfl, hml2⟩ := HNIN.out j (List.mem_of_getElem? hj)
                      obtain ⟨b8, o8, hA8, hb8, ct8⟩ := (show IRow wr.heap.size wr _ nk from Row.of_own hno3).at_ hj
                      subst hA8
                      have HTKS := Lib.hid (show nk.take (k2 + 1) = nk.take k2 ++ [(m : Int)] by rw [List.take_add_one, hj]; rfl)
                      have HMN := Lib.hid (show (m : Int) ∈ nxtP l hs i by rw [HN.out]; exact List.mem_of_getElem? hj)
                      obtain ⟨q, hq⟩ : ∃ q, b3[m]? = some q := ⟨_, List.getElem?_eq_getElem (by rw [hsw3.len]; exact hml2)⟩
                      have HQ3 := Lib.hid hq
                      have c7 := cells_of hrow3 m
                      have f7 := free_of hrow3
                      have c7' : (bcells b3).toArray[m]? = some (.bool q) := by simp [bcells, hq]
                      rw [c7'] at c7
                      have hrl3 := lt_of_block hrow3
                      have hb3l := Lib.hid hsw3.len
                      clear hj hsw3 hb3i hrow3 hno3 hbel3 hq c7'
                      cases q with
                      | true =>
                        go_wp2
                        go_roundw
                        case rel => exact ⟨k2 + 1, b3, m3, by omega, rfl, by go_num, by rw [HTKS.out]; exact HSW3.out.skip HQ3.out, HB3I.out, HROW3.out, HNO3.out, HBEL3.out⟩
                        case measure => simp [intOf]; omega
                      | false =>
                        go_wp2
                        go_roundw
                        case rel =>
                          obtain ⟨p1, p2⟩ := HSW3.out.put HB3I.out HMN.out HQ3.out
                          refine ⟨k2 + 1, b3.set m true, true, by omega, rfl, by go_num, by rw [HTKS.out]; exact p1, p2, ?_, own_but HNO3.out ((But.refl rb rb wr).set rb (.inl rfl)) (own_ne HNO3.out HROW3.out (by decide)) (own_ne HNO3.out HROW3.out (by decide)), HBEL3.out.setCell hrb3 _⟩
                          have := set_row (u := .bool true) (k := m) HROW3.out (by simp [bcells, hb3l.out]; exact hml2)
                          rw [this, bcells_set]
                        case measure => simp [intOf]; omega
                    · have HTKA := Lib.hid (show nk.take k2 = nk from List.take_of_length_le (by omega))
                      clear hsw3 hb3i hrow3 hno3 hbel3
                      go_wp2
                      go_roundw
                      case rel =>
                        have h1 := HSW3.out
                        rw [HTKA.out, ← HN.out] at h1
                        exact ⟨b3, m3, i + 1, by omega, rfl, by go_num, h1.next, HROW3.out, HBEL3.out⟩
                      case measure => simp [intOf]; omega
          · obtain rfl : i = l.length := by omega
            clear hsw hrow hbel
            go_wp2
            go_roundw
            case rel => exact ⟨b2, mm, tt + 1, rfl, by go_num, HSW.out.turn HTY.out, HROW.out, HBEL.out⟩
            case measure =>
              cases mm <;> simp [intOf] <;> omega
  · have hca : covA l n hs = [] := by unfold covA; rw [if_neg (by rw [HFE.out]; exact hz)]
    have e1 : (f != 0) = true := by simpa using hz
    have HB1 := Lib.hid hb1
    have hzz := Lib.hid hz
    clear hlo hb1 HC hca hz
    go_wp2
    go_ret2
    exact ⟨_, [], rfl, World.ownsRow_nil _ _ _ _, ⟨fun h => absurd (HFE.out.symm.trans h) hzz.out, fun _ => rfl⟩, HB1.out⟩
end Go.Proofs.Ytbeelcklbdnjnaa
