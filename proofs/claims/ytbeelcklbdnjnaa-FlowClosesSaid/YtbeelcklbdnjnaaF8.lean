/-
  WALK: Reach.
-/
import Derived.Test.YtbeelcklbdnjnaaF7
import Derived.Deep.QuietTactic
import Derived.Deep.RegionLaw
import Derived.Deep.LoopGhost
import Derived.Deep.DeepCutAuto
set_option linter.unusedVariables false
set_option linter.unusedSimpArgs false
namespace Go.Proofs.Ytbeelcklbdnjnaa
open Go.RowKit

theorem len_sucP (l : List In) (i : Nat) (x : In) : (sucP l i x).length ≤ x.to.length + 1 := len_sucN l i x _
theorem len_covP (hs : List Hd) (pc : Int) : (covP hs pc).length ≤ hs.length := len_covN hs pc _
theorem sucP_in {n : Nat} {l : List In} (ho : Ord n l) {i : Nat} {x : In} (hx : l[i]? = some x) {j : Int} (hj : j ∈ sucP l i x) : ∃ m : Nat, j = (m : Int) ∧ m < l.length := by
  rcases mem_sucP.1 hj with h | ⟨t, ht, rfl⟩
  · obtain ⟨_, h1, h2⟩ := mem_first.1 h
    exact ⟨i + 1, h2, h1⟩
  · obtain ⟨m, y, _, _, e, hm⟩ := ho.to_ (List.mem_of_getElem? hx) ht
    exact ⟨m, e, hm⟩
theorem sta_in {l : List In} {n : Int} {hs : List Hd} (hc : covE l n hs = 0) {k : Nat} {h : Hd} (hk : hs[k]? = some h) : ∃ m : Nat, idxP l h.at_ = (m : Int) ∧ m < l.length := by
  have hall : hs.all (okH l n) = true := by
    unfold covE at hc
    split at hc
    · assumption
    · cases hc
  have := List.all_eq_true.1 hall h (List.mem_of_getElem? hk)
  unfold okH at this
  simp at this
  have hb := idx_lt l h.at_
  exact ⟨(idxP l h.at_).toNat, by omega, by omega⟩
theorem nxtP_eq {l : List In} {hs : List Hd} {i : Nat} {x : In} (hx : l[i]? = some x) : nxtP l hs i = sucP l i x ++ (covP hs x.pc).map fun h => (staL l hs).getD h.toNat (-1) := by
  unfold nxtP nxt
  rw [getD_of (succL_at hx), getD_of (covL_at hx)]
/-- What Reach tells. -/
def ReachIs (l : List In) (n : Int) (hs : List Hd) (rb : List Bool) : Prop := (covE l n hs = 0 → IsR (nxtP l hs) l.length rb) ∧ (covE l n hs ≠ 0 → rb = [])
set_option maxRecDepth 1000000 in
set_option maxHeartbeats 6400000 in
theorem reach_any (B n : Nat) (l : List In) (hs : List Hd) (v hv : Value) (w : World) (hr : NRow B w v l) (hh : HRow B w hv hs) (hB : B ≤ w.heap.size) (ho : Ord n l) (hn : n ≤ 1000000) (hl : l.length ≤ 1000000) (hm : hs.length ≤ 1000000) (hw : Hok hs) :
    Calls Try.prog 18 #[v, .int .i64 n, hv] w fun e w' => ∃ u rb, e = .returned (.tuple #[u, .int .i64 (covE l n hs)]) ∧ w'.ownsRow w.heap.size 4 1 u rb.length (bcells rb) ∧ ReachIs l n hs rb ∧ Below w.heap.size w w' := by
  have hl0 : 0 < l.length := List.length_pos_iff.2 ho.ne
  have HR := Lib.hid hr
  have HH := Lib.hid hh
  have HC := Lib.hid (cover_any B n l hs v hv w hr hh hB ho hn hl hm hw)
  obtain ⟨A, c, rfl, hc, hml⟩ := hr.form
  obtain ⟨A2, c2, rfl, hc2, hml2⟩ := hh.form
  have HO := Lib.hid ho
  have HW := Lib.hid hw
  unfold maxLen at hml hml2
  clear hr ho hh hw
  obtain ⟨f, hf⟩ : ∃ f, covE l n hs = f := ⟨_, rfl⟩
  rw [hf] at HC
  have HFE := Lib.hid hf
  rw [hf]
  clear hf
  go_enter Try.func18, Try.ntmps18
  go_wp2_with fail
  refine HC.out.mono ?_
  rintro e w1 ⟨u, rfl, hlo, hb1⟩
  have hsz1 := hb1.size
  by_cases hz : f = 0
  · subst hz
    have hca : covA l n hs = covL l hs := by unfold covA; rw [if_pos HFE.out]
    rw [hca] at hlo
    have HLO := Lib.hid hlo.row
    have HB1 := Lib.hid hb1
    have hlc := hlo.form
    rw [show (covL l hs).length = l.length by simp [covL]] at hlc
    obtain ⟨ac, cc, rfl⟩ := hlc
    have HSU := Lib.hid (succ_any B n l _ w1 (HR.out.below hb1 hB) (by omega) HO.out hn hl)
    clear hlo hb1 HC hca
    go_wp2_with fail
    refine HSU.out.mono ?_
    rintro e w2 ⟨us, rfl, hls, hb2⟩
    have hsz2 := hb2.size
    have HLS := Lib.hid hls.row
    have HB2 := Lib.hid (Below.link HB1.out hb2)
    have HLO2 := Lib.hid ((HLO.out.below hb2 (Nat.le_refl _)).more hsz2)
    have hlc := hls.form
    rw [succL_len] at hlc
    obtain ⟨as_, cs, rfl⟩ := hlc
    have HST := Lib.hid (starts_any B n l hs _ _ w2 (HR.out.below HB2.out hB) (HH.out.below HB2.out hB) (by omega) HO.out hn hm HW.out)
    clear hls hb2 HSU HLO
    go_wp2_with fail
    refine HST.out.mono ?_
    rintro e w3 ⟨ut, rfl, hlt, hb3⟩
    have hsz3 := hb3.size
    have HLT := Lib.hid (Row.of_own hlt : IRow _ _ _ _)
    have HB3 := Lib.hid (Below.link HB2.out hb3)
    have HLO3 := Lib.hid ((HLO2.out.below hb3 (Nat.le_refl _)).more hsz3)
    have HLS3 := Lib.hid ((HLS.out.below hb3 (Nat.le_refl _)).more hsz3)
    obtain ⟨at_, ct, rfl⟩ := hlt.form
    clear hlt hb3 HST HLO2 HLS
    obtain ⟨w4, hmk, hrow, hb4⟩ := make_row w3 36 4 (.bool false) 1 l.length (by kernel_rfl) mk4 rfl hl (by omega)
    have hol := lt_of_block hrow
    have HRW := Lib.hid hrow
    have HB4 := Lib.hid hb4
    have cz := cells_of hrow 0
    have fz := free_of hrow
    have cz' : (List.replicate l.length (Value.bool false)).toArray[0]? = some (.bool false) := by simp [hl0]
    rw [cz'] at cz
    have env : REnv w3.heap.size l.length w3.heap.size w4.heap.size (w4.heap.size + 1 + 1) ((List.replicate l.length false).set 0 true) [0] (.slice (some ⟨w4.heap.size + 1, 0, none⟩) 1 1) ((((w4.setCell ⟨w3.heap.size, 0, none⟩ (.bool true)).alloc (.cells #[.slice (some ⟨w3.heap.size, 0, none⟩) l.length l.length] 36)).alloc (.cells #[.int .i64 0] 3)).alloc (.cells #[.slice (some ⟨w4.heap.size + 1, 0, none⟩) 1 1] 34)) := by
      have hb0 : w4.heap[w3.heap.size]? = some (.cells (bcells (List.replicate l.length false)).toArray 4 (0, 0)) := by rw [hrow]; simp [bcells]
      refine ⟨?_, ?_, heap_new_at _ _ _ (by simp [World.setCell]), ?_, by simp, by simp [World.setCell]; omega, Nat.le_refl _, by omega⟩
      · exact heap_alloc_lt (heap_alloc_lt (heap_new_at _ _ _ (by simp [World.setCell])))
      · refine heap_alloc_lt (heap_alloc_lt (heap_alloc_lt ?_))
        have := set_row (u := .bool true) (k := 0) hb0 (by simp [bcells]; exact hl0)
        rw [this, bcells_set]
      · exact own_new (cs := [.int .i64 0]) (heap_alloc_lt (heap_new_at _ _ _ (by simp [World.setCell]))) (by omega) rfl (by unfold maxLen; omega)
    have HENV := Lib.hid env
    have hbx : Below w3.heap.size w3 ((((w4.setCell ⟨w3.heap.size, 0, none⟩ (.bool true)).alloc (.cells #[.slice (some ⟨w3.heap.size, 0, none⟩) l.length l.length] 36)).alloc (.cells #[.int .i64 0] 3)).alloc (.cells #[.slice (some ⟨w4.heap.size + 1, 0, none⟩) 1 1] 34)) := by
      repeat (first | with_reducible exact HB4.out | with_reducible refine Below.setCell ?_ (by first | exact Nat.le_refl _ | (simp; done) | (simp; omega)) _ | with_reducible refine Below.alloc ?_ (by first | exact Nat.le_refl _ | omega | (simp [World.setCell]; done) | (simp [World.setCell]; omega)) _)
    have HBX := Lib.hid hbx
    clear hrow hb4 cz' env hbx
    have HI0 := Lib.hid (Inv.first (N := nxtP l hs) hl0 0)
    have HCN := Lib.hid (cnt_first l.length hl0)
    go_wp2
    clear hmk cz fz HRW HB4
    obtain ⟨pc, hpc⟩ : ∃ x, x = w4.heap.size + 1 + 1 := ⟨_, rfl⟩
    rw [← hpc] at HENV
    have hpc3 : w3.heap.size ≤ pc := by omega
    go_loopg [] l.length (fun g wx => ∃ (b : List Bool) (p : List Int) (pv : Value), REnv w3.heap.size l.length w3.heap.size w4.heap.size pc b p pv wx ∧ cntF b + p.length = g ∧ g ≤ l.length ∧ Inv (nxtP l hs) l.length b p 0 [] ∧ Below w3.heap.size w3 wx)
    case atStart => exact ⟨_, _, _, HENV.out, HCN.out, Nat.le_refl _, HI0.out, HBX.out⟩
    case round =>
      clear HENV HBX HI0 HCN
      try rw [← hpc]
      try rw [← hpc] at *
      clear hpc
      obtain ⟨b, p, pv, henv, hcnt, hgl, hinv, hbel⟩ := hrel
      have hszw := hbel.size
      have HBEL := Lib.hid hbel
      have HENV := Lib.hid henv
      have HINV := Lib.hid hinv
      have p0 := cells_of henv.pcell 0
      have r0 := cells_of henv.rcell 0
      have pf := free_of henv.pcell 0
      have hpl := lt_of_block henv.pcell
      have hrl := lt_of_block henv.rcell
      simp at p0 r0
      rcases List.eq_nil_or_concat p with rfl | ⟨p', x, rfl⟩
      · obtain ⟨pa, pcap, rfl⟩ := henv.pown.form
        have hbt := Lib.hid henv.rrow
        have hbg := Lib.hid henv.len
        clear henv hinv hbel hcnt
        go_wp2
        go_ret2
        refine ⟨.slice (some ⟨w3.heap.size, 0, none⟩) l.length l.length, b, rfl, ?_, ⟨fun _ => HINV.out.done, fun h => absurd HFE.out h⟩, HB3.out.trans (HBEL.out.mono (by omega))⟩
        have := own_new (base := w.heap.size) (size := 1) (n := l.length) hbt.out (by omega) (by simp [bcells, hbg.out]) (by unfold maxLen; omega)
        rw [hbg.out]
        exact this
      · rw [List.concat_eq_append] at *
        obtain ⟨i, rfl, _⟩ := hinv.pend x (by simp)
        have hpo := henv.pown
        obtain ⟨pa, pcap, rfl⟩ := hpo.form
        have hpr : IRow wr.heap.size wr (.slice pa (p' ++ [(i : Int)]).length pcap) (p' ++ [(i : Int)]) := Row.of_own hpo
        obtain ⟨bb, oo, rfl, hbb, px⟩ := hpr.at_ (k := p'.length) (c := (i : Int)) (by simp)
        have hcapl : (p' ++ [(i : Int)]).length ≤ pcap := by
          obtain ⟨_, _, ef, hc5, _⟩ := hpr.form
          injection ef with _ _ e
          rw [e]; exact hc5
        obtain ⟨hn1, hbi⟩ := hinv.pop
        have hlen : (p' ++ [(i : Int)]).length = p'.length + 1 := by simp
        rw [hlen] at p0 hcnt henv hcapl HENV
        have HN1 := Lib.hid hn1
        have HBI := Lib.hid hbi
        have hil : i < l.length := by have := (List.getElem?_eq_some_iff.1 hbi).1; rw [henv.len] at this; exact this
        have hpn : p'.length + 1 ≤ l.length := by omega
        obtain ⟨q1, q2⟩ := henv.pop
        have HQ1 := Lib.hid q1
        have HQ2 := Lib.hid (HBEL.out.trans q2)
        have hx := List.getElem?_eq_getElem hil
        generalize l[i] = y at hx
        have HX := Lib.hid hx
        have s1 := HLS3.out.at_ (succL_at hx)
        have s2 := HLO3.out.at_ (covL_at (hs := hs) hx)
        obtain ⟨bs, os, As, cs1, rfl, hbs, hrs, cs2⟩ := s1
        obtain ⟨bc, oc, Ac, cc1, rfl, hbc, hrc, cc2⟩ := s2
        have HC2 := Lib.hid cc2
        replace cs2 := (HQ2.out.cell (p := ⟨bs, os + i, none⟩) hbs).trans cs2
        clear cc2
        have HRS := Lib.hid hrs
        have HRC := Lib.hid hrc
        have HNX := Lib.hid (nxtP_eq (hs := hs) hx)
        have hsl := len_sucP l i y
        have hfew := HO.out.few y (List.mem_of_getElem? hx)
        have hcl := len_covP hs y.pc
        have hgk := Lib.hid hcnt
        clear henv hinv hbel hcnt hpo hpr hn1 hbi q1 q2 hx hrs hrc hlen
        go_upto_region 14 with fail
        obtain ⟨W1, hW1⟩ : ∃ z, z = wr.setCell ⟨pc, 0, none⟩ (.slice (some ⟨bb, oo, none⟩) p'.length pcap) := ⟨_, rfl⟩
        rw [← hW1] at HQ1 HQ2 cs2
        rw [← hW1]
        have hw1s : wr.heap.size = W1.heap.size := by rw [hW1]; simp
        have hszq := HQ2.out.size
        clear hW1 p0 px pf r0 HENV HINV HBEL hpl hrl hcapl hbb
        go_wp2
        obtain ⟨wo, hwo⟩ : ∃ wo, wo = wr := ⟨_, rfl⟩
        subst hwo
        obtain ⟨g1, hg1⟩ : ∃ g, g = gk := ⟨_, rfl⟩
        subst hg1
        obtain ⟨M, hM⟩ : ∃ M, (covP hs y.pc).map (fun h => (staL l hs).getD h.toNat (-1)) = M := ⟨_, rfl⟩
        have HM := Lib.hid hM
        rw [hM] at HNX
        clear hM
        go_loopw [64] (fun u wx => ∃ (k : Nat) (b : List Bool) (p : List Int) (pv : Value), k ≤ (sucP l i y).length ∧ u = .int .i64 k ∧ REnv w3.heap.size l.length w3.heap.size w4.heap.size pc b p pv wx ∧ cntF b + p.length + 1 = g1 ∧ b[i]? = some true ∧ Inv (nxtP l hs) l.length b p i ((sucP l i y).drop k ++ M) ∧ Below w3.heap.size w3 wx) (fun u _ => (sucP l i y).length - (intOf u).toNat)
        case atStart => exact ⟨0, b, p', _, Nat.zero_le _, rfl, HQ1.out, by have := hgk.out; omega, HBI.out, by rw [List.drop_zero, ← HNX.out]; exact HN1.out, HQ2.out⟩
        case round =>
          clear HQ1 HQ2 HBI HN1 cs2 hgk hpn
          obtain ⟨k, b, p, pv, hk, rfl, henv, hcnt, hbi, hinv, hbel⟩ := hrel
          have HENV := Lib.hid henv
          have HCNT := Lib.hid hcnt
          have HBI := Lib.hid hbi
          have HINV := Lib.hid hinv
          have HBEL := Lib.hid hbel
          have hszw2 := hbel.size
          clear henv hcnt hbi hinv hbel
          by_cases hkl : k < (sucP l i y).length
          · have hj := List.getElem?_eq_getElem hkl
            generalize (sucP l i y)[k] = j at hj
            have hjm := List.mem_of_getElem? hj
            obtain ⟨m, rfl, hml2⟩ := sucP_in HO.out HX.out hjm
            obtain ⟨b2, o2, rfl, hb2, ct0⟩ := (HRS.out.below HBEL.out (Nat.le_refl _)).at_ hj
            have hdr : (sucP l i y).drop k = (m : Int) :: (sucP l i y).drop (k + 1) := by
              obtain ⟨h1, h2⟩ := List.getElem?_eq_some_iff.1 hj
              rw [List.drop_eq_getElem_cons h1, h2]
            have HDR := Lib.hid hdr
            have HMN := Lib.hid (show (m : Int) ∈ nxtP l hs i by rw [HNX.out]; exact List.mem_append.2 (.inl hjm))
            have HRE := Lib.hid (reach1_any m wr HENV.out hml2 hl (by have := HCNT.out; omega))
            have hb2w : b2 < wr.heap.size := by omega
            clear hj hjm hdr
            go_wp2_with (first | (go_at_call 32; refine HRE.out.mono ?_; rintro e wi ⟨rfl, b', p', pv', henv', hput, hbel'⟩))
            go_roundw
            case rel =>
              obtain ⟨i1, i2, i3⟩ := Inv.put (by have := HINV.out; rw [HDR.out] at this; exact this) HBI.out HMN.out hput
              exact ⟨k + 1, b', p', pv', by omega, by go_num, henv', by have := HCNT.out; omega, i2, i1, HBEL.out.trans hbel'⟩
            case measure => simp [intOf]; omega
          · obtain rfl : k = (sucP l i y).length := by omega
            have hin2 := HINV.out
            rw [List.drop_length, List.nil_append] at hin2
            have HINV2 := Lib.hid hin2
            have cc2 := (HBEL.out.cell (p := ⟨bc, oc + i, none⟩) hbc).trans HC2.out
            have hbcw : bc < wr.heap.size := by omega
            clear hin2 HINV
            go_wp2
            clear cc2
            obtain ⟨wp, hwp⟩ : ∃ z, z = wr := ⟨_, rfl⟩
            subst hwp
            go_loopw [77] (fun u wx => ∃ (k : Nat) (b : List Bool) (p : List Int) (pv : Value), k ≤ (covP hs y.pc).length ∧ u = .int .i64 k ∧ REnv w3.heap.size l.length w3.heap.size w4.heap.size pc b p pv wx ∧ cntF b + p.length + 1 = g1 ∧ b[i]? = some true ∧ Inv (nxtP l hs) l.length b p i (M.drop k) ∧ Below w3.heap.size w3 wx) (fun u _ => (covP hs y.pc).length - (intOf u).toNat)
            case atStart => exact ⟨0, b, p, pv, Nat.zero_le _, rfl, HENV.out, HCNT.out, HBI.out, HINV2.out, HBEL.out⟩
            case round =>
              clear HENV HCNT HBI HINV2 HBEL
              obtain ⟨k, b, p, pv, hk, rfl, henv, hcnt, hbi, hinv, hbel⟩ := hrel
              have HENV := Lib.hid henv
              have HCNT := Lib.hid hcnt
              have HBI := Lib.hid hbi
              have HINV := Lib.hid hinv
              have HBEL := Lib.hid hbel
              have hszw3 := hbel.size
              clear henv hcnt hbi hinv hbel
              by_cases hkl2 : k < (covP hs y.pc).length
              · have hj := List.getElem?_eq_getElem hkl2
                generalize (covP hs y.pc)[k] = j at hj
                have hjm := List.mem_of_getElem? hj
                obtain ⟨q, hd, hq, rfl, _⟩ := mem_covP.1 hjm
                obtain ⟨m, hm1, hm2⟩ := sta_in HFE.out hq
                have hsq : (staL l hs)[q]? = some (m : Int) := by simp [staL, hq, hm1]
                have hqs : q < (staL l hs).length := (List.getElem?_eq_some_iff.1 hsq).1
                obtain ⟨b2, o2, rfl, hb2, ct0⟩ := (HRC.out.below HBEL.out (Nat.le_refl _)).at_ hj
                obtain ⟨b4, o4, rfl, hb4, ct4⟩ := (IRow.below HLT.out HBEL.out (Nat.le_refl _)).at_ hsq
                have hMk : M[k]? = some (m : Int) := by
                  rw [← HM.out, List.getElem?_map, hj]
                  simp [getD_of hsq]
                  try (rw [hsq]; rfl)
                have hdr : M.drop k = (m : Int) :: M.drop (k + 1) := by
                  obtain ⟨h1, h2⟩ := List.getElem?_eq_some_iff.1 hMk
                  rw [List.drop_eq_getElem_cons h1, h2]
                have HDR := Lib.hid hdr
                have HMN := Lib.hid (show (m : Int) ∈ nxtP l hs i by rw [HNX.out]; exact List.mem_append.2 (.inr (List.mem_of_getElem? hMk)))
                have HRE := Lib.hid (reach1_any m wr HENV.out hm2 hl (by have := HCNT.out; omega))
                have hb2w : b2 < wr.heap.size := by omega
                have hb4w : b4 < wr.heap.size := by omega
                clear hj hjm hdr hMk hsq hm1 hq
                go_wp2_with (first | (go_at_call 32; refine HRE.out.mono ?_; rintro e wi ⟨rfl, b', p', pv', henv', hput, hbel'⟩))
                go_roundw
                case rel =>
                  obtain ⟨i1, i2, i3⟩ := Inv.put (by have := HINV.out; rw [HDR.out] at this; exact this) HBI.out HMN.out hput
                  exact ⟨k + 1, b', p', pv', by omega, by go_num, henv', by have := HCNT.out; omega, i2, i1, HBEL.out.trans hbel'⟩
                case measure => simp [intOf]; omega
              · have HDN := Lib.hid (show M.drop k = [] by rw [List.drop_eq_nil_iff, ← HM.out, List.length_map]; omega)
                go_wp2
                go_roundg (g1 - 1)
                case measure => have := HCNT.out; omega
                case rel => exact ⟨b, p, pv, HENV.out, by have := HCNT.out; omega, by omega, by have := HINV.out; rw [HDN.out] at this; exact this.drop, HBEL.out⟩
  · have hca : covA l n hs = [] := by unfold covA; rw [if_neg (by rw [HFE.out]; exact hz)]
    have e1 : (f != 0) = true := by simpa using hz
    have HB1 := Lib.hid hb1
    have hzz := Lib.hid hz
    clear hlo hb1 HC hca hz
    go_wp2
    go_ret2
    exact ⟨_, [], rfl, World.ownsRow_nil _ _ _ _, ⟨fun h => absurd (HFE.out.symm.trans h) hzz.out, fun _ => rfl⟩, HB1.out⟩
end Go.Proofs.Ytbeelcklbdnjnaa
