/-
  WALK: Succ.
-/
import Derived.Test.YtbeelcklbdnjnaaF4
import Derived.Deep.QuietTactic
import Derived.Deep.RegionLaw
import Derived.Deep.LoopGhost
import Derived.Deep.DeepCutAuto
set_option linter.unusedVariables false
set_option linter.unusedSimpArgs false
namespace Go.Proofs.Ytbeelcklbdnjnaa
open Go.RowKit

theorem SEnv.below {base n lb ob lc sc mb : Nat} {l : List In} {Ls : List Int} {ll : List (List Int)} {ps : List Value} {w w' : World} (h : SEnv base n lb ob lc sc mb l Ls ll ps w) (hb : Below w.heap.size w w') : SEnv base n lb ob lc sc mb l Ls ll ps w' :=
  ⟨(hb.block _ (lt_of_block h.lcell)).trans h.lcell, (hb.block _ (lt_of_block h.scell)).trans h.scell, (hb.block _ (lt_of_block h.lrow)).trans h.lrow, h.nest.below hb, h.map.stay (hb.block _ h.map.lt), h.len1, h.len2, Nat.le_trans h.hb hb.size, h.geb, h.geo, h.ne1, h.ne2, h.ne3, h.ne4, h.ne5, h.ne6, h.ne7⟩
theorem Mk.fresh {Ls : List Int} {i : Nat} (h : ∀ x ∈ Ls, x ≤ (i : Int)) : Mk Ls i [] := by
  refine ⟨fun m hm => ?_, fun x hx => by have := h x hx; omega⟩
  constructor
  · intro e
    have := h _ (List.mem_of_getElem? e)
    omega
  · intro e
    simp at e
theorem list_z {base n lb ob lc sc mb : Nat} {l : List In} {Ls : List Int} {ll : List (List Int)} {ps : List Value} (i m : Nat) (z : Int) (hz : z = (m : Int)) (s s' : List Int) (hs' : addI s z = s') (w : World) (h : SEnv base n lb ob lc sc mb l Ls ll ps w) (hs : ll[i]? = some s) (hm : m < n) (hk : Mk Ls i s) (hn : n ≤ 1000000) (hsl2 : s.length ≤ 2000000) :
    Calls Try.prog 27 #[.int .i64 i, .int .i64 z, .pointer (some ⟨lc, 0, none⟩), .pointer (some ⟨sc, 0, none⟩)] w fun e w' => e = .returned (.tuple #[]) ∧ ∃ Ls' ps', SEnv base n lb ob lc sc mb l Ls' (ll.set i s') ps' w' ∧ Mk Ls' i s' ∧ Below base w w' ∧ Sides w w' := by
  subst hz hs'
  exact list_any i m s w h hs hm hk hn hsl2
set_option maxRecDepth 1000000 in
set_option maxHeartbeats 6400000 in
theorem succ_any (B n : Nat) (l : List In) (v : Value) (w : World) (hr : NRow B w v l) (hB : B ≤ w.heap.size) (ho : Ord n l) (hn : n ≤ 1000000) (hm : l.length ≤ 1000000) :
    Calls Try.prog 11 #[v] w fun e w' => ∃ u, e = .returned u ∧ LOwn w' w.heap.size u (succL l) ∧ Below w.heap.size w w' := by
  obtain ⟨A, c, rfl, hc, hml⟩ := hr.form
  have HPL := Lib.hid (places_any B n l _ w hr hB ho hn)
  have HR := Lib.hid hr
  have HO := Lib.hid ho
  unfold maxLen at hml
  clear hr ho
  go_enter Try.func11, Try.ntmps11
  go_wp2_with fail
  refine HPL.out.mono ?_
  rintro e w1 ⟨mb, rfl, hmb, hp1, hb1⟩
  have hsz1 := hb1.size
  have hml1 := hp1.lt
  obtain ⟨w2, hmk, hrow, hb2⟩ := make_row w1 29 34 (.slice none 0 0) 24 l.length (by kernel_rfl) mk34 rfl hm (by omega)
  have hol := lt_of_block hrow
  obtain ⟨w3, hw3⟩ : ∃ x, x = w2.alloc (.cells #[.slice (some ⟨w1.heap.size, 0, none⟩) l.length l.length] 29) := ⟨_, rfl⟩
  obtain ⟨w4, hmk4, hrow4, hb4⟩ := make_row w3 34 3 (.int .i64 0) 8 l.length (by kernel_rfl) mk3 rfl hm (by omega)
  have hll := lt_of_block hrow4
  have hs3 : w3.heap.size = w2.heap.size + 1 := by rw [hw3]; simp
  have hb3 : Below w2.heap.size w2 w3 := by rw [hw3]; exact (Below.refl _ _).alloc (Nat.le_refl _) _
  have hsc : w3.heap[w2.heap.size]? = some (.cells #[.slice (some ⟨w1.heap.size, 0, none⟩) l.length l.length] 29 (0, 0)) := by rw [hw3]; exact heap_new _ _
  have env : SEnv w.heap.size l.length w3.heap.size w1.heap.size w4.heap.size w2.heap.size mb l (List.replicate l.length 0) (List.replicate l.length []) (List.replicate l.length (.slice none 0 0)) (w4.alloc (.cells #[.slice (some ⟨w3.heap.size, 0, none⟩) l.length l.length] 34)) := by
    have k3 : w3.heap[w1.heap.size]? = _ := (hb3.block _ hol).trans hrow
    have k4 : w4.heap[w1.heap.size]? = _ := (hb4.block _ (by omega)).trans k3
    have k5 : w4.heap[w2.heap.size]? = _ := (hb4.block _ (by omega)).trans hsc
    have mp : PMap mb l w4 := ((hp1.below hb2 hml1).below hb3 (by omega)).below hb4 (by omega)
    refine ⟨heap_new _ _, heap_alloc_lt k5, ?_, ?_, mp.alloc _, by simp, by simp, by simp; omega, by omega, by omega, by omega, by omega, by omega, by omega, by omega, by omega, by omega⟩
    · have := heap_alloc_lt (o := .cells #[.slice (some ⟨w3.heap.size, 0, none⟩) l.length l.length] 34) hrow4
      rw [this]; simp [icells]
    · exact Nest.new (heap_alloc_lt k4) (by simp; omega)
  have HENV := Lib.hid env
  have HB5 := Lib.hid (Below.link (Below.link (Below.link (Below.link hb1 hb2) hb3) hb4) ((Below.refl _ w4).alloc (Nat.le_refl _) (.cells #[.slice (some ⟨w3.heap.size, 0, none⟩) l.length l.length] 34)))
  clear hp1 hb1 hrow hb2 hb3 hb4 hsc hrow4 env HPL
  rw [hs3] at HENV HB5
  rw [hw3] at hmk4
  go_wp2
  clear hmk hmk4
  obtain ⟨W5, hW5⟩ : ∃ x, x = w4.alloc (.cells #[.slice (some ⟨w2.heap.size + 1, 0, none⟩) l.length l.length] 34) := ⟨_, rfl⟩
  rw [← hW5] at HENV HB5
  try rw [← hW5]
  obtain ⟨lb, hlb⟩ : ∃ x, x = w2.heap.size + 1 := ⟨_, rfl⟩
  obtain ⟨ob, hob⟩ : ∃ x, x = w1.heap.size := ⟨_, rfl⟩
  obtain ⟨lc, hlc⟩ : ∃ x, x = w4.heap.size := ⟨_, rfl⟩
  obtain ⟨sc, hsc⟩ : ∃ x, x = w2.heap.size := ⟨_, rfl⟩
  rw [← hlb, ← hob, ← hlc, ← hsc] at HENV
  try rw [← hlc, ← hsc]
  clear hlb hob hlc hsc hW5 hw3 hs3 hll hol hml1 hsz1 hmb
  go_loopw [23] (fun i wr => ∃ (k : Nat) (Ls : List Int) (ll : List (List Int)) (ps : List Value), k ≤ l.length ∧ i = .int .i64 k ∧ SEnv w.heap.size l.length lb ob lc sc mb l Ls ll ps wr ∧ ll.take k = (succL l).take k ∧ (∀ j, k ≤ j → j < l.length → ll[j]? = some []) ∧ (∀ x ∈ Ls, x ≤ (k : Int)) ∧ Below w.heap.size w wr) (fun i _ => l.length - (intOf i).toNat)
  case atStart => exact ⟨0, _, _, _, Nat.zero_le _, rfl, HENV.out, by simp, fun j _ hj => by simp [hj], fun x hx => by rw [List.eq_of_mem_replicate hx]; exact Int.le_refl _, HB5.out⟩
  case round =>
    clear HENV HB5
    obtain ⟨k, Ls, ll, ps, hk, rfl, henv, htk, hem, hls, hb⟩ := hrel
    have HENV := Lib.hid henv
    have HTK := Lib.hid htk
    have HEM := Lib.hid hem
    have HBE := Lib.hid hb
    have hsz := hb.size
    by_cases hlt : k < l.length
    · have hx := List.getElem?_eq_getElem hlt
      generalize l[k] = x at hx
      obtain ⟨b, o, Ak, ck, At, ct, rfl, hbB, hk2, hto, c0, c1, c2, c3, c4⟩ := (HR.out.below HBE.out hB).at_ hx
      have HX := Lib.hid hx
      have hmk := Lib.hid (Mk.fresh hls)
      have hfw := HO.out.few x (List.mem_of_getElem? hx)
      obtain ⟨_, _, _, hcx, hmx⟩ := hto.form
      unfold maxLen at hmx
      have hbw : b < wr.heap.size := by omega
      have e2 := HENV.out.len2
      have hl0 := hem k (Nat.le_refl _) hlt
      have bx : Below wr.heap.size wr (wr.alloc (.cells #[.int .i64 x.pc, .int .i64 x.op, .int .i64 x.n, .slice Ak x.keys.length ck, .slice At x.to.length ct] 44)) := (Below.refl _ _).alloc (Nat.le_refl _) _
      have HE1 := Lib.hid (HENV.out.below bx)
      have HB1 := Lib.hid (Below.link HBE.out bx)
      have HT1 := Lib.hid (IRow.below hto bx (by omega))
      have HC1 := Lib.hid (heap_new wr (.cells #[.int .i64 x.pc, .int .i64 x.op, .int .i64 x.n, .slice Ak x.keys.length ck, .slice At x.to.length ct] 44))
      have hout := Lib.hid (HENV.out.nest.out)
      clear henv htk hem hls hb hx hk2 hto bx
      obtain ⟨xb, hxb⟩ : ∃ y, y = wr.heap.size := ⟨_, rfl⟩
      rw [← hxb] at HC1
      go_upto_region 8 with fail
      rw [← hxb]
      obtain ⟨W1, hW1⟩ : ∃ y, y = wr.alloc (.cells #[.int .i64 x.pc, .int .i64 x.op, .int .i64 x.n, .slice Ak x.keys.length ck, .slice At x.to.length ct] 44) := ⟨_, rfl⟩
      rw [← hW1] at HE1 HB1 HT1 HC1
      rw [← hW1]
      clear hW1 hxb hout c0 c1 c2 c3 c4
      have hcx0 := cells_of HC1.out
      have y1 := hcx0 1
      simp at y1
      have HEND := fun W => ends_any x.op W
      obtain ⟨q, hq⟩ : ∃ q, endsP x.op = q := ⟨_, rfl⟩
      rw [hq] at HEND
      have HFI := Lib.hid (show firstS l.length k x = if !q && decide (k + 1 < l.length) then [((k + 1 : Nat) : Int)] else [] by unfold firstS; rw [hq]; cases q <;> simp)
      clear hcx0 hq
      go_cut [38] (fun c wx => c = .bool (!q && decide (k + 1 < l.length)) ∧ wx = W1)
      case first =>
        by_cases hk1 : k + 1 < l.length
        · cases q with
          | true =>
            go_wp2_with (first | (go_at_call 28; refine (HEND _).mono ?_; rintro e wi ⟨rfl, rfl⟩))
            go_meet
            case rel => exact ⟨by simp, rfl⟩
          | false =>
            go_wp2_with (first | (go_at_call 28; refine (HEND _).mono ?_; rintro e wi ⟨rfl, rfl⟩))
            go_meet
            case rel => exact ⟨by simp [hk1], rfl⟩
        · go_wp2
          go_meet
          case rel => exact ⟨by simp [hk1], rfl⟩
      case rest =>
        obtain ⟨rfl, rfl⟩ := hcut
        clear y1 HEND
        go_upto_if 38 with fail
        go_cut [] (fun wx => ∃ (Ls2 : List Int) (ps2 : List Value), SEnv w.heap.size l.length lb ob lc sc mb l Ls2 (ll.set k (firstS l.length k x)) ps2 wx ∧ Mk Ls2 k (firstS l.length k x) ∧ Below w.heap.size wc wx ∧ wx.heap[xb]? = some (.cells #[.int .i64 x.pc, .int .i64 x.op, .int .i64 x.n, .slice Ak x.keys.length ck, .slice At x.to.length ct] 44 (0, 0)))
        case first =>
          by_cases hc2 : (!q && decide (k + 1 < l.length)) = true
          · have hk1 : k + 1 < l.length := by simp at hc2; exact hc2.2
            have e5 : addI [] ((k : Int) + 1) = firstS l.length k x := by rw [HFI.out, if_pos hc2]; simp [addI]
            have HLI := Lib.hid (list_z k (k + 1) ((k : Int) + 1) (by omega) [] _ e5 wc HE1.out hl0 hk1 hmk.out hm (by simp))
            rw [hc2]
            clear hc2 e5 HFI
            go_wp2_with (first | (go_at_call 27; refine (HLI.out).mono ?_; rintro e wi ⟨rfl, Ls2, ps2, hen2, hmk2, hbe2, hsd2⟩))
            go_meet
            case rel => exact ⟨Ls2, ps2, hen2, hmk2, hbe2, hsd2 _ _ _ _ (by decide) (by decide) HC1.out⟩
          · have hc3 : (!q && decide (k + 1 < l.length)) = false := by simpa using hc2
            have e5 : firstS l.length k x = [] := by rw [HFI.out, if_neg hc2]
            rw [hc3]
            clear hc2 hc3 HFI
            go_wp2
            go_meet
            case rel =>
              rw [e5]
              have e6 : ll.set k [] = ll := by
                obtain ⟨h1, h2⟩ := List.getElem?_eq_some_iff.1 hl0
                rw [← h2, List.set_getElem_self]
              rw [e6]
              exact ⟨Ls, ps, HE1.out, hmk.out, Below.refl _ _, HC1.out⟩
        case rest =>
          obtain ⟨Ls2, ps2, hen2, hmk2, hbe2, hxc2⟩ := hcut
          have HE2 := Lib.hid hen2
          have HM2 := Lib.hid hmk2
          have HB2 := Lib.hid (HB1.out.trans hbe2)
          have HC2 := Lib.hid hxc2
          have HT2 := Lib.hid (IRow.below HT1.out hbe2 hB)
          have yy := cells_of hxc2
          have y4 := yy 4
          have y1 := yy 1
          have y0 := yy 0
          simp at y4 y1 y0
          clear yy hen2 hmk2 hbe2 hxc2 hmk HE1 HC1 HT1 HFI
          go_wp2
          obtain ⟨wo, hwo⟩ : ∃ wo, wo = wr := ⟨_, rfl⟩
          subst hwo
          go_loopw [47] (fun i w3 => ∃ (j : Nat) (Ls3 : List Int) (ps3 : List Value), j ≤ x.to.length ∧ i = .int .i64 j ∧ SEnv w.heap.size l.length lb ob lc sc mb l Ls3 (ll.set k (sucN l k x j)) ps3 w3 ∧ Mk Ls3 k (sucN l k x j) ∧ Below w.heap.size w w3 ∧ IRow B w3 (.slice At x.to.length ct) x.to) (fun i _ => x.to.length - (intOf i).toNat)
          case atStart => exact ⟨0, Ls2, ps2, Nat.zero_le _, rfl, HE2.out, HM2.out, HB2.out, HT2.out⟩
          case round =>
            clear HE2 HM2 HB2 HC2 HT2 y4 y1 y0
            obtain ⟨j, Ls3, ps3, hj, rfl, hen3, hmk3, hbe3, hto3⟩ := hrel
            have HE3 := Lib.hid hen3
            have HM3 := Lib.hid hmk3
            have HB3 := Lib.hid hbe3
            have HT3 := Lib.hid hto3
            have hsz3 := hbe3.size
            by_cases hjl : j < x.to.length
            · have ht := List.getElem?_eq_getElem hjl
              generalize x.to[j] = t at ht
              obtain ⟨b2, o2, rfl, hb2B, ct0⟩ := HT3.out.at_ ht
              obtain ⟨m, y, hm1, hm2, hm3, hm4⟩ := HO.out.to_ (List.mem_of_getElem? HX.out) (List.mem_of_getElem? ht)
              have ht1 := HO.out.lo y (List.mem_of_getElem? hm1)
              have ht2 := HO.out.hi y (List.mem_of_getElem? hm1)
              have HIX := fun W (hW : PMap mb l W) => index_any mb l t W hW (by omega) (by omega)
              rw [hm3] at HIX
              have e7 : addI (sucN l k x j) (m : Int) = sucN l k x (j + 1) := by rw [sucN, getD_of ht, hm3]
              have hsk : (ll.set k (sucN l k x j))[k]? = some (sucN l k x j) := List.getElem?_set_self (by omega)
              have hls := len_sucN l k x j
              have HLI := Lib.hid (list_z k m (m : Int) rfl _ _ e7 wr HE3.out hsk hm4 HM3.out hm (by omega))
              rw [List.set_set] at HLI
              have HMP := Lib.hid HE3.out.map
              have HII := Lib.hid HIX
              have hb2w : b2 < wr.heap.size := by omega
              clear hen3 hmk3 hbe3 hto3 ht hm1 hm2 hm3 ht1 ht2 HIX e7 hsk hls
              go_wp2_with (first | (go_at_call 29; refine (HII.out _ HMP.out).mono ?_; rintro e wi ⟨rfl, rfl⟩) | (go_at_call 27; refine (HLI.out).mono ?_; rintro e wi ⟨rfl, Ls4, ps4, hen4, hmk4, hbe4, hsd4⟩))
              go_roundw
              case rel => exact ⟨j + 1, Ls4, ps4, by omega, by go_num, hen4, hmk4, HB3.out.trans hbe4, IRow.below HT3.out hbe4 hB⟩
              case measure => simp [intOf]; omega
            · obtain rfl : j = x.to.length := by omega
              clear hen3 hmk3 hbe3 hto3
              go_wp2
              go_roundw
              case rel =>
                refine ⟨k + 1, Ls3, _, ps3, by omega, by go_num, HE3.out, ?_, fun m h1 h2 => ?_, fun y hy => ?_, HB3.out⟩
                · exact put_next HTK.out (by omega) (succL_at HX.out)
                · rw [List.getElem?_set_ne (by omega)]
                  exact HEM.out m (by omega) h2
                · have := HM3.out.2 y hy
                  omega
              case measure => simp [intOf]; omega
    · obtain rfl : k = l.length := by omega
      have e1 := HENV.out.scell
      have c2 := cells_of e1 0
      simp at c2
      have hscl := lt_of_block e1
      clear e1
      clear henv htk hem hls hb
      go_wp2
      go_ret
      have e2 := HENV.out.len2
      have e3 : ll = succL l := by
        have := HTK.out
        rwa [List.take_of_length_le (by omega), List.take_of_length_le (by rw [succL_len]; exact Nat.le_refl _)] at this
      subst e3
      have := HENV.out.nest.done HENV.out.geo (by rw [succL_len]; unfold maxLen; omega)
      rw [succL_len] at this
      exact ⟨_, rfl, this, HBE.out⟩
end Go.Proofs.Ytbeelcklbdnjnaa
