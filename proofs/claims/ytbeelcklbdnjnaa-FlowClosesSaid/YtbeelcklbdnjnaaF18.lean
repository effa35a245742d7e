/-
  THE LAW FlowCloses.
-/
import Derived.Test.YtbeelcklbdnjnaaF13
import Derived.Test.YtbeelcklbdnjnaaAs
import Derived.Test.YtbeelcklbdnjnaaF14
import Derived.Deep.DeepCutAuto
set_option linter.unusedVariables false
set_option linter.unusedSimpArgs false
namespace Go.Proofs.Ytbeelcklbdnjnaa
open Go.RowKit

/-- Some reached instruction ahead of the k-th has nothing behind it. -/
def endsB (l : List In) (rb : List Bool) (k : Nat) : Bool := (List.range k).any fun i => rb.getD i false && ((succL l).getD i []).isEmpty
theorem endsB_succ {l : List In} {rb : List Bool} {k : Nat} {x : In} {q : Bool} (hx : l[k]? = some x) (hq : rb[k]? = some q) : endsB l rb (k + 1) = (endsB l rb k || (q && (sucP l k x).isEmpty)) := by
  unfold endsB
  rw [List.range_succ, List.any_append]
  simp [getD_of hq, getD_of (succL_at hx), succL_at hx, hq]
theorem last_true : ∀ (b : List Bool) (i : Nat), b[i]? = some true → ∃ m : Nat, b[m]? = some true ∧ ∀ j : Nat, m < j → b[j]? ≠ some true := by
  intro b
  induction b with
  | nil => intro i h; simp at h
  | cons x b ih =>
    intro i h
    by_cases hb : ∃ j : Nat, b[j]? = some true
    · obtain ⟨j, hj⟩ := hb
      obtain ⟨m, h1, h2⟩ := ih j hj
      refine ⟨m + 1, by simpa using h1, fun j hj => ?_⟩
      obtain ⟨j', rfl⟩ : ∃ j', j = j' + 1 := ⟨j - 1, by omega⟩
      simpa using h2 j' (by omega)
    · refine ⟨0, ?_, fun j hj hh => ?_⟩
      · cases i with
        | zero => exact h
        | succ i => exact absurd ⟨i, by simpa using h⟩ hb
      · obtain ⟨j', rfl⟩ : ∃ j', j = j' + 1 := ⟨j - 1, by omega⟩
        exact hb ⟨j', by simpa using hh⟩
/-- Where nothing jumps back something that is reached ends. -/
theorem some_end {n : Nat} {l : List In} {hs : List Hd} {rb : List Bool} (ho : Ord n l) (hr : IsR (nxtP l hs) l.length rb) (hb : l.any backP = false) : endsB l rb l.length = true := by
  have h0 : rb[0]? = some true := (hr.2 0 (List.length_pos_iff.2 ho.ne)).2 .zero
  obtain ⟨m, hm, hmax⟩ := last_true rb 0 h0
  have hml : m < l.length := by have := (List.getElem?_eq_some_iff.1 hm).1; rw [hr.1] at this; exact this
  have hx := List.getElem?_eq_getElem hml
  generalize l[m] = x at hx
  have hnil : sucP l m x = [] := by
    rcases hsp : sucP l m x with _ | ⟨j, r⟩
    · rfl
    · exfalso
      have hj : j ∈ sucP l m x := by rw [hsp]; simp
      obtain ⟨q, rfl, hq⟩ := sucP_in ho hx hj
      have hreach : rb[q]? = some true := (hr.2 q hq).2 (by
        have := Rch.step ((hr.2 m hml).1 hm) (show (q : Int) ∈ nxtP l hs m by rw [nxtP_eq hx]; exact List.mem_append.2 (.inl hj))
        simpa using this)
      have hqm : q ≤ m := by
        apply Classical.byContradiction
        intro h
        exact hmax q (by omega) hreach
      rcases mem_sucP.1 hj with h | ⟨t, ht, e⟩
      · obtain ⟨_, _, e⟩ := mem_first.1 h
        omega
      · obtain ⟨m', y, hy, hyp, e2, _⟩ := ho.to_ (List.mem_of_getElem? hx) ht
        have : m' = q := by omega
        subst this
        have := (ho.le_iff hy hx).2 hqm
        have hbk : backP x = true := by
          unfold backP
          rw [List.any_eq_true]
          exact ⟨t, ht, by simp; omega⟩
        rw [List.any_eq_false] at hb
        exact hb x (List.mem_of_getElem? hx) hbk
  unfold endsB
  rw [List.any_eq_true]
  exact ⟨m, List.mem_range.2 hml, by rw [getD_of hm, getD_of (succL_at hx), hnil]; rfl⟩
set_option maxRecDepth 1000000 in
set_option maxHeartbeats 12800000 in
theorem closes_walk (s : ByteArray) (hs : List Hd) (hv : Value) (w : World) (hh : HRow w.heap.size w hv hs) (hok : Hok hs) :
    Calls Try.prog 4 #[.string s, hv] w fun e w' => e = .returned (.bool true) ∧ Below w.heap.size w w' := by
  obtain ⟨A2, c2, rfl, hc2, hml2⟩ := hh.form
  have HH := Lib.hid hh
  have HW := Lib.hid hok
  unfold maxLen at hml2
  clear hh hok
  have HDR := fun W => Lib.hid (refDecode_any s W)
  have HORD := Lib.hid (@ord_of (L s))
  have HSZ := Lib.hid (size_L s)
  obtain ⟨f, hf⟩ : ∃ f, decE (L s) = f := ⟨_, rfl⟩
  obtain ⟨l, hl⟩ : ∃ l, decL (L s) = l := ⟨_, rfl⟩
  rw [hf, hl] at HDR
  rw [hf, hl, ← HSZ.out] at HORD
  clear hf hl HSZ
  go_enter Try.func4, Try.ntmps4
  go_wp2_with fail
  refine (shown_any _).mono ?_
  rintro e w1 ⟨rfl, hb⟩
  have B1 := Lib.hid hb
  clear hb
  go_wp2_with fail
  refine (HDR _).out.mono ?_
  rintro e w2 ⟨v, rfl, ho, hb⟩
  have hz2 := hb.size
  have B2 := Lib.hid (Below.link B1.out hb)
  have R2 := Lib.hid ho.row
  have H2 := Lib.hid ((HH.out.below B2.out (Nat.le_refl _)).more B2.out.size)
  have hzw := B2.out.size
  obtain ⟨A, c, rfl⟩ := ho.form
  clear ho hb HDR
  by_cases h0 : f = 0
  · subst h0
    obtain ⟨ho1, ho2, ho3⟩ := HORD.out rfl
    have HO := Lib.hid ho1
    have hl0 : 0 < l.length := List.length_pos_iff.2 ho1.ne
    clear HORD ho1
    by_cases h6 : l.length ≤ 600
    · by_cases h4 : hs.length ≤ 40
      · obtain ⟨B, hBdef⟩ : ∃ B, B = w2.heap.size := ⟨_, rfl⟩
        have hB2 : B ≤ w2.heap.size := by omega
        rw [← hBdef] at R2 H2
        clear hBdef
        obtain ⟨cf, hcf⟩ : ∃ x, covE l s.size hs = x := ⟨_, rfl⟩
        have HCF := Lib.hid hcf
        clear hcf
        have HC := Lib.hid (reach_any B s.size l hs _ _ w2 R2.out H2.out hB2 HO.out (by omega) (by omega) (by omega) HW.out)
        rw [HCF.out] at HC
        go_wp2_with fail
        refine HC.out.mono ?_
        rintro e w3 ⟨u1, rb, rfl, ho1, hre1, hb3⟩
        have hz3 := hb3.size
        have B3 := Lib.hid (Below.link B2.out hb3)
        have R3 := Lib.hid (R2.out.below hb3 hB2)
        have H3 := Lib.hid (H2.out.below hb3 hB2)
        have hB3 : B ≤ w3.heap.size := by omega
        have X1 := Lib.hid (show BRow w3.heap.size w3 u1 rb from Row.of_own ho1)
        have RE1 := Lib.hid hre1
        obtain ⟨a1, c1, rfl⟩ := own_form ho1
        clear ho1 hre1 hb3 HC
        have HC := Lib.hid (cover_any B s.size l hs _ _ w3 R3.out H3.out hB3 HO.out (by omega) (by omega) (by omega) HW.out)
        rw [HCF.out] at HC
        go_wp2_with fail
        refine HC.out.mono ?_
        rintro e w4 ⟨u2, rfl, hlo, hb4⟩
        have hz4 := hb4.size
        have B4 := Lib.hid (Below.link B3.out hb4)
        have R4 := Lib.hid (R3.out.below hb4 hB3)
        have H4 := Lib.hid (H3.out.below hb4 hB3)
        have hB4 : B ≤ w4.heap.size := by omega
        have X14 := Lib.hid ((X1.out.below hb4 (Nat.le_refl _)).more hz4)
        have X2 := Lib.hid hlo.row
        obtain ⟨a2, c22, rfl⟩ := hlo.form
        clear hlo hb4 HC X1
        by_cases hc0 : cf = 0
        · subst hc0
          have hca : covA l s.size hs = covL l hs := by unfold covA; rw [if_pos HCF.out]
          have hcl : (covL l hs).length = l.length := by simp [covL]
          rw [hca, hcl] at X2
          rw [hca, hcl]
          have HIR := Lib.hid (RE1.out.1 HCF.out)
          have hrl := HIR.out.1
          rw [hrl] at X14
          rw [hrl]
          clear hca hcl RE1 hrl
          have HC := Lib.hid (succ_any B s.size l _ w4 R4.out hB4 HO.out (by omega) (by omega))
          go_wp2_with fail
          refine HC.out.mono ?_
          rintro e w5 ⟨u3, rfl, hlo, hb5⟩
          have hz5 := hb5.size
          have B5 := Lib.hid (Below.link B4.out hb5)
          have R5 := Lib.hid (R4.out.below hb5 hB4)
          have H5 := Lib.hid (H4.out.below hb5 hB4)
          have hB5 : B ≤ w5.heap.size := by omega
          have X15 := Lib.hid ((X14.out.below hb5 (Nat.le_refl _)).more hz5)
          have X25 := Lib.hid ((X2.out.below hb5 (Nat.le_refl _)).more hz5)
          have X3 := Lib.hid hlo.row
          have hlc := hlo.form
          rw [succL_len] at hlc
          obtain ⟨a3, c3, rfl⟩ := hlc
          clear hlo hb5 HC X14 X2
          have HC := Lib.hid (starts_any B s.size l hs _ _ w5 R5.out H5.out hB5 HO.out (by omega) (by omega) HW.out)
          go_wp2_with fail
          refine HC.out.mono ?_
          rintro e w6 ⟨u4, rfl, hst, hb6⟩
          have hz6 := hb6.size
          have B6 := Lib.hid (Below.link B5.out hb6)
          have R6 := Lib.hid (R5.out.below hb6 hB5)
          have hB6 : B ≤ w6.heap.size := by omega
          have X16 := Lib.hid ((X15.out.below hb6 (Nat.le_refl _)).more hz6)
          have X26 := Lib.hid ((X25.out.below hb6 (Nat.le_refl _)).more hz6)
          have X36 := Lib.hid ((X3.out.below hb6 (Nat.le_refl _)).more hz6)
          have X4 := Lib.hid (show IRow w6.heap.size w6 u4 (staL l hs) from Row.of_own hst)
          have hlc := hst.form
          rw [staL_len] at hlc
          obtain ⟨a4, c4, rfl⟩ := hlc
          clear hst hb6 HC X15 X25 X3
          have HC := Lib.hid (back_any B l _ w6 R6.out hB6 (by omega))
          go_wp2_with fail
          refine HC.out.mono ?_
          rintro e w7 ⟨u5, rfl, hbk, hb7⟩
          have hz7 := hb7.size
          have B7 := Lib.hid (Below.link B6.out hb7)
          have R7 := Lib.hid (R6.out.below hb7 hB6)
          have Y1 := Lib.hid ((X16.out.below hb7 (Nat.le_refl _)).more hz7)
          have Y2 := Lib.hid ((X26.out.below hb7 (Nat.le_refl _)).more hz7)
          have Y3 := Lib.hid ((X36.out.below hb7 (Nat.le_refl _)).more hz7)
          have Y4 := Lib.hid (Row.more (IRow.below X4.out hb7 (Nat.le_refl _)) hz7 : IRow _ _ _ _)
          have Y5 := Lib.hid (show BRow w7.heap.size w7 u5 (backL l) by
            have := Row.of_own hbk
            unfold BRow
            rw [show (backL l).length = l.length by simp [backL]]
            exact this)
          obtain ⟨a5, c5, rfl⟩ := own_form hbk
          clear hbk hb7 HC X16 X26 X36 X4
          have hr0 : rb[0]? = some true := (HIR.out.2 0 hl0).2 .zero
          obtain ⟨br, orr, rfl, hbr, e0⟩ := Y1.out.at_ hr0
          rw [Nat.add_zero] at e0
          obtain ⟨w8, hmk, hrow, hb8⟩ := make_row w7 36 4 (.bool false) 1 l.length (by kernel_rfl) mk4 rfl (by omega) (by omega)
          have hol := lt_of_block hrow
          have cz := cells_of hrow 0
          have fz := free_of hrow
          have cz' : (List.replicate l.length (Value.bool false)).toArray[0]? = some (.bool false) := by simp [hl0]
          rw [cz'] at cz
          have HBX := Lib.hid (show Below w7.heap.size w7 (w8.setCell ⟨w7.heap.size, 0, none⟩ (.bool true)) from hb8.setCell (Nat.le_refl _) _)
          have hb0 : w8.heap[w7.heap.size]? = some (.cells (bcells (List.replicate l.length false)).toArray 4 (0, 0)) := by rw [hrow]; simp [bcells]
          have HRX := Lib.hid (show (w8.setCell ⟨w7.heap.size, 0, none⟩ (.bool true)).heap[w7.heap.size]? = some (.cells (bcells ((List.replicate l.length false).set 0 true)).toArray 4 (0, 0)) by
            have := set_row (u := .bool true) (k := 0) hb0 (by simp [bcells]; exact hl0)
            rw [this, bcells_set])
          have hl0i : (0 : Int) < (l.length : Int) := by omega
          clear hrow hb8 cz' hb0 hr0
          go_wp2
          clear hmk cz fz e0
          obtain ⟨fb, hfb⟩ : ∃ x, x = w7.heap.size := ⟨_, rfl⟩
          rw [← hfb] at HRX
          try rw [← hfb]
          have hfb3 : w7.heap.size ≤ fb := by omega
          have HFB := Lib.hid hfb
          clear hfb
          obtain ⟨i0, hi0, hz0, hz1, hz22⟩ := info3
          go_loopw [16, 17, 18] (fun an en u wx => ∃ (i : Nat) (fr : List Bool), i ≤ l.length ∧ an = .bool ((l.take i).any backP) ∧ en = .bool (endsB l rb i) ∧ u = .int .i64 i ∧ fr.length = l.length ∧ fr[0]? = some true ∧ (∀ i' : Nat, i' < i → rb[i']? = some true → ∀ j ∈ nxtP l hs i', fr[j.toNat]? = some true) ∧ wx.heap[fb]? = some (.cells (bcells fr).toArray 4 (0, 0)) ∧ Below w7.heap.size w7 wx) (fun _ _ u _ => l.length - (intOf u).toNat)
          case atStart => exact ⟨0, _, Nat.zero_le _, by simp, by simp [endsB], rfl, by simp, List.getElem?_set_self (by simpa using hl0), fun i' hi' => by omega, HRX.out, by rw [HFB.out]; exact HBX.out⟩
          case round =>
            clear HRX HBX
            obtain ⟨i, fr, hi, rfl, rfl, rfl, hfl, hf0, hcl, hrow, hbel⟩ := hrel
            have HFL := Lib.hid hfl
            have HF0 := Lib.hid hf0
            have HCL := Lib.hid hcl
            have HROW := Lib.hid hrow
            have HBEL := Lib.hid hbel
            have hszw := hbel.size
            have hrl := lt_of_block hrow
            by_cases hil : i < l.length
            · have hx := List.getElem?_eq_getElem hil
              generalize l[i] = y at hx
              have HX := Lib.hid hx
              obtain ⟨qi, hqi⟩ : ∃ q, rb[i]? = some q := ⟨_, List.getElem?_eq_getElem (by rw [HIR.out.1]; exact hil)⟩
              have HQI := Lib.hid hqi
              have s1 := Y3.out.at_ (succL_at hx)
              have s2 := Y2.out.at_ (covL_at (hs := hs) hx)
              obtain ⟨bs, os, As, cs1, rfl, hbs, hrs, cs2⟩ := s1
              obtain ⟨bc, oc, Ac, cc1, rfl, hbc, hrc, cc2⟩ := s2
              have HCS := Lib.hid cs2
              have HC2 := Lib.hid cc2
              replace cs2 := (hbel.cell (p := ⟨bs, os + i, none⟩) hbs).trans cs2
              have HRS := Lib.hid hrs
              have HRC := Lib.hid hrc
              have HNX := Lib.hid (nxtP_eq (hs := hs) hx)
              have hsl := len_sucP l i y
              have hfew := HO.out.few y (List.mem_of_getElem? hx)
              have hcvl := len_covP hs y.pc
              have hbsw : bs < wr.heap.size := by omega
              have HAN := Lib.hid (any_step (g := backP) hx)
              have HEN := Lib.hid (endsB_succ hx hqi)
              obtain ⟨M, hM⟩ : ∃ M, (covP hs y.pc).map (fun h => (staL l hs).getD h.toNat (-1)) = M := ⟨_, rfl⟩
              have HM := Lib.hid hM
              have hMl : M.length = (covP hs y.pc).length := by rw [← hM, List.length_map]
              rw [hM] at HNX
              obtain ⟨S, hS⟩ : ∃ S, sucP l i y = S := ⟨_, rfl⟩
              have HS := Lib.hid hS
              rw [hS] at HNX HRS hsl cs2 HEN HCS
              have HRW := HRS.out.below hbel (Nat.le_refl _)
              have HSRC := Lib.hid (IRow.src HRW)
              have HNEWS := Lib.hid (IRow.news (o := .cells #[] 3) HRW (by omega))
              have HO1 := Lib.hid (own_new (e := 3) (size := 1) (n := 0) (base := wr.heap.size) (cs := []) (heap_new wr (.cells #[] 3)) (Nat.le_refl _) rfl (by decide))
              have HML := Lib.hid hMl
              obtain ⟨an, han⟩ : ∃ an, (l.take i).any backP = an := ⟨_, rfl⟩
              obtain ⟨en, hen⟩ : ∃ en, endsB l rb i = en := ⟨_, rfl⟩
              rw [han] at HAN ⊢
              rw [hen] at HEN ⊢
              clear hfl hf0 hcl hrow hbel hx hqi hrs hrc cc2 hM hS HRW hMl han hen
              go_wp2_with (at_builtin; refine wpList_append_own_src rfl (.tmp 134) (.tmp 138) 34 rfl wr.heap.size 3 i0 (.int .i64 0) 1 8 Try.underlying34 hi0 hz0 hz1 hz22 rfl (by decide) (.slice (some ⟨wr.heap.size, 0, none⟩) 0 0) 0 [] rfl HO1.out As S.length cs1 (icells S) rfl (by rw [icells_length, Nat.mul_one]) HSRC.out HNEWS.out (int_cells .i64 _) (by unfold maxLen; omega) (by omega) (by simp) ?_)
              intro v5 w9 own5 hg5
              have HO5 := Lib.hid (show IOwn w9 wr.heap.size v5 S by
                unfold IOwn
                simpa using own5)
              have HB5 := Lib.hid (((Below.refl wr.heap.size wr).alloc (Nat.le_refl _) (.cells #[] 3)).grown hg5 (by simp) (fun k hk => own_block_ge HO1.out k hk))
              obtain ⟨a9, c9, rfl⟩ := HO5.out.form
              clear own5 hg5 cs2
              go_wp2
              obtain ⟨wo, hwo⟩ : ∃ z, z = wr := ⟨_, rfl⟩
              subst hwo
              go_loopw [19, 20] (fun nv u wx => ∃ k : Nat, k ≤ (covP hs y.pc).length ∧ u = .int .i64 k ∧ IOwn wx wo.heap.size nv (S ++ M.take k) ∧ Below wo.heap.size wo wx) (fun _ u _ => (covP hs y.pc).length - (intOf u).toNat)
              case atStart => exact ⟨0, Nat.zero_le _, rfl, by simpa using HO5.out, HB5.out⟩
              case round =>
                clear HO5 HB5
                obtain ⟨k, hk, rfl, hno, hbn⟩ := hrel
                have HNO := Lib.hid hno
                have HBN := Lib.hid hbn
                have hszn := hbn.size
                obtain ⟨an9, cn, rfl⟩ := hno.form
                have hbel3 := HBEL.out.trans (hbn.mono hszw)
                have HB3W := Lib.hid hbel3
                have cc2 := (hbel3.cell (p := ⟨bc, oc + i, none⟩) hbc).trans HC2.out
                have hbcw : bc < wr.heap.size := by omega
                have hln : (S ++ M.take k).length ≤ 2000000 := by rw [List.length_append, List.length_take, HML.out]; omega
                clear hno hbn hbel3
                by_cases hkl2 : k < (covP hs y.pc).length
                · have hj := List.getElem?_eq_getElem hkl2
                  generalize (covP hs y.pc)[k] = j at hj
                  have hjm := List.mem_of_getElem? hj
                  obtain ⟨q, hd, hq, rfl, _⟩ := mem_covP.1 hjm
                  obtain ⟨m, hm1, hm2⟩ := sta_in HCF.out hq
                  have hsq : (staL l hs)[q]? = some (m : Int) := by simp [staL, hq, hm1]
                  have hqs : q < hs.length := (List.getElem?_eq_some_iff.1 hq).1
                  obtain ⟨b7, o7, rfl, hb7, ct0⟩ := (HRC.out.below HB3W.out (Nat.le_refl _)).at_ hj
                  obtain ⟨b4, o4, rfl, hb4, ct4⟩ := (IRow.below Y4.out HB3W.out (Nat.le_refl _)).at_ hsq
                  have hMk : M[k]? = some (m : Int) := by
                    rw [← HM.out, List.getElem?_map, hj]
                    simp [getD_of hsq]
                    try (rw [hsq]; rfl)
                  have HMK := Lib.hid (show S ++ M.take (k + 1) = (S ++ M.take k) ++ [(m : Int)] by rw [List.take_add_one, hMk]; simp)
                  have hb7w : b7 < wr.heap.size := by omega
                  have hb4w : b4 < wr.heap.size := by omega
                  obtain ⟨nk, hnk⟩ : ∃ nk, S ++ M.take k = nk := ⟨_, rfl⟩
                  rw [hnk] at HNO HMK hln ⊢
                  clear hj hjm hMk hsq hm1 hq hnk
                  go_wp2_with (at_builtin; refine wpList_append_own2 rfl (.tmp 149) (.tmp 160) 34 rfl wo.heap.size 3 i0 (.int .i64 0) 1 8 Try.underlying34 hi0 hz0 hz1 hz22 rfl (by decide) (.slice an9 nk.length cn) nk.length (icells nk) rfl (World.ownsRow.alloc HNO.out _) ⟨_, 0, none⟩ 1 1 [.int .i64 (m : Int)] rfl rfl (new_at _ [.int .i64 (m : Int)] 3 _ rfl) (int_cells .i64 [(m : Int)]) (by unfold maxLen; omega) (by omega) (by simp; omega) ?_)
                  intro v6 w10 own6 hg6 hm6
                  have HO6 := Lib.hid own6
                  have HB6 := Lib.hid ((HBN.out.alloc hszn (.cells #[.int .i64 (m : Int)] 3)).grown hg6 (by simp; omega) (fun k hk => own_block_ge HNO.out k hk))
                  obtain ⟨a6, c6, rfl⟩ := own_form own6
                  clear own6 hg6 hm6
                  go_wp2
                  go_roundw
                  case rel => exact ⟨k + 1, by omega, by go_num, by rw [HMK.out]; exact IOwn.more HO6.out rfl rfl, HB6.out⟩
                  case measure => simp [intOf]; omega
                · have HTK := Lib.hid (show S ++ M.take k = nxtP l hs i by rw [HNX.out, List.take_of_length_le (by rw [HML.out]; omega)])
                  obtain ⟨N, hN⟩ : ∃ N, nxtP l hs i = N := ⟨_, rfl⟩
                  have HN := Lib.hid hN
                  rw [hN] at HTK
                  obtain ⟨nk, hnk⟩ : ∃ nk, S ++ M.take k = nk := ⟨_, rfl⟩
                  rw [hnk] at HNO HTK hln ⊢
                  obtain rfl := HTK.out
                  have HROW2 := Lib.hid ((HBN.out.block _ hrl).trans HROW.out)
                  have HNIN := Lib.hid (show ∀ j ∈ nk, ∃ m : Nat, j = (m : Int) ∧ m < l.length from fun j hj => by
                    rw [← hN, HNX.out] at hj
                    rcases List.mem_append.1 hj with h | h
                    · rw [← HS.out] at h
                      exact sucP_in HO.out HX.out h
                    · rw [← HM.out] at h
                      obtain ⟨a, ha, rfl⟩ := List.mem_map.1 h
                      obtain ⟨q, hd, hq, rfl, _⟩ := mem_covP.1 ha
                      obtain ⟨m, hm1, hm2⟩ := sta_in HCF.out hq
                      exact ⟨m, by simp [staL, hq, hm1], hm2⟩)
                  clear hnk hN
                  go_wp2
                  obtain ⟨wp, hwp⟩ : ∃ z, z = wr := ⟨_, rfl⟩
                  subst hwp
                  go_loopw [21] (fun u wx => ∃ (k : Nat) (fr2 : List Bool), k ≤ nk.length ∧ u = .int .i64 k ∧ fr2.length = l.length ∧ fr2[0]? = some true ∧ (∀ i' : Nat, i' < i → rb[i']? = some true → ∀ j ∈ nxtP l hs i', fr2[j.toNat]? = some true) ∧ (qi = true → ∀ j ∈ nk.take k, fr2[j.toNat]? = some true) ∧ wx.heap[fb]? = some (.cells (bcells fr2).toArray 4 (0, 0)) ∧ IOwn wx wo.heap.size (.slice an9 nk.length cn) nk ∧ Below w7.heap.size w7 wx) (fun u _ => nk.length - (intOf u).toNat)
                  case atStart => exact ⟨0, fr, Nat.zero_le _, rfl, HFL.out, HF0.out, HCL.out, fun _ j hj => by simp at hj, HROW2.out, HNO.out, HB3W.out⟩
                  case round =>
                    clear HROW2 HNO HB3W HBN hszn hbcw cc2
                    obtain ⟨k2, fr2, hk2, rfl, hfl3, hf03, hcl3, hnn3, hrow3, hno3, hbel3⟩ := hrel
                    have HFL3 := Lib.hid hfl3
                    have HF03 := Lib.hid hf03
                    have HCL3 := Lib.hid hcl3
                    have HNN3 := Lib.hid hnn3
                    have HROW3 := Lib.hid hrow3
                    have HNO3 := Lib.hid hno3
                    have HBEL3 := Lib.hid hbel3
                    have hszw3 := hbel3.size
                    by_cases hkl3 : k2 < nk.length
                    · have hj := List.getElem?_eq_getElem hkl3
                      generalize nk[k2] = j at hj
                      obtain ⟨m, rfl, hml2⟩ := HNIN.out j (List.mem_of_getElem? hj)
                      obtain ⟨b8, o8, hA8, hb8', ct8⟩ := (show IRow wr.heap.size wr _ nk from Row.of_own hno3).at_ hj
                      subst hA8
                      have HTKS := Lib.hid (show nk.take (k2 + 1) = nk.take k2 ++ [(m : Int)] by rw [List.take_add_one, hj]; rfl)
                      obtain ⟨br2, or2, hAr, hbr2, ei⟩ := (Y1.out.below hbel3 (Nat.le_refl _)).at_ HQI.out
                      injection hAr with hAr
                      injection hAr with hAr1 hAr2
                      subst hAr1 hAr2
                      have hbrw : br < wr.heap.size := by omega
                      obtain ⟨q, hq⟩ : ∃ q, fr2[m]? = some q := ⟨_, List.getElem?_eq_getElem (by rw [hfl3]; exact hml2)⟩
                      have c7 := cells_of hrow3 m
                      have f7 := free_of hrow3
                      have c7' : (bcells fr2).toArray[m]? = some (.bool q) := by simp [bcells, hq]
                      rw [c7'] at c7
                      have hrl3 := lt_of_block hrow3
                      have gm1 : ((m : Int) < 0) = False := eq_false (by omega)
                      have gm2 : ((l.length : Int) ≤ (m : Int)) = False := eq_false (by omega)
                      cases qi with
                      | false =>
                        clear hj hfl3 hf03 hcl3 hnn3 hrow3 hno3 hbel3 hq c7'
                        go_wp2
                        go_roundw
                        case rel => exact ⟨k2 + 1, fr2, by omega, by go_num, HFL3.out, HF03.out, HCL3.out, (fun e => by cases e), HROW3.out, HNO3.out, HBEL3.out⟩
                        case measure => simp [intOf]; omega
                      | true =>
                        have hrm : rb[m]? = some true := (HIR.out.2 m hml2).2 (by
                          have := Rch.step ((HIR.out.2 i hil).1 HQI.out) (show (m : Int) ∈ nxtP l hs i by rw [HN.out]; exact List.mem_of_getElem? hj)
                          simpa using this)
                        obtain ⟨br3, or3, hAr3, hbr3, em⟩ := (Y1.out.below hbel3 (Nat.le_refl _)).at_ hrm
                        injection hAr3 with hAr3
                        injection hAr3 with hAr31 hAr32
                        subst hAr31 hAr32
                        clear hj hfl3 hf03 hcl3 hnn3 hrow3 hno3 hbel3 hq c7' hrm
                        go_wp2
                        go_roundw
                        case rel =>
                          have mono : ∀ k : Nat, fr2[k]? = some true → (fr2.set m true)[k]? = some true := fun k hk => by
                            rw [List.getElem?_set]
                            split
                            · rw [if_pos (by rw [HFL3.out]; exact hml2)]
                            · exact hk
                          refine ⟨k2 + 1, fr2.set m true, by omega, by go_num, by rw [List.length_set]; exact HFL3.out, mono 0 HF03.out, fun i' hi' hr j hj => mono _ (HCL3.out i' hi' hr j hj), fun _ j hj => ?_, ?_, own_but HNO3.out ((But.refl fb fb wr).set fb (.inl rfl)) (own_ne HNO3.out HROW3.out (by decide)) (own_ne HNO3.out HROW3.out (by decide)), HBEL3.out.setCell hfb3 _⟩
                          · rw [HTKS.out] at hj
                            rcases List.mem_append.1 hj with hj | hj
                            · exact mono _ (HNN3.out rfl j hj)
                            · simp at hj
                              subst hj
                              rw [Int.toNat_natCast]
                              exact List.getElem?_set_self (by rw [HFL3.out]; exact hml2)
                          · have := set_row (u := .bool true) (k := m) HROW3.out (by simp [bcells, HFL3.out]; exact hml2)
                            rw [this, bcells_set]
                        case measure => simp [intOf]; omega
                    · have HTKA := Lib.hid (show nk.take k2 = nk from List.take_of_length_le (by omega))
                      have hcs8 := (hbel3.cell (p := ⟨bs, os + i, none⟩) hbs).trans HCS.out
                      have hbs8 : bs < wr.heap.size := by omega
                      obtain ⟨bk, ok, hAk, hbk8, ebk⟩ := (Y5.out.below hbel3 (Nat.le_refl _)).at_ (show (backL l)[i]? = some (backP y) by simp [backL, HX.out])
                      subst hAk
                      obtain ⟨br2, or2, hAr, hbr2, ei⟩ := (Y1.out.below hbel3 (Nat.le_refl _)).at_ HQI.out
                      injection hAr with hAr
                      injection hAr with hAr1 hAr2
                      subst hAr1 hAr2
                      have hbrw : br < wr.heap.size := by omega
                      have hbkw : bk < wr.heap.size := by omega
                      have HFIN := Lib.hid (show ∀ i' : Nat, i' < i + 1 → rb[i']? = some true → ∀ j ∈ nxtP l hs i', fr2[j.toNat]? = some true from fun i' hi' hr j hj => by
                        rcases Nat.lt_or_eq_of_le (Nat.le_of_lt_succ hi') with h | rfl
                        · exact HCL3.out i' h hr j hj
                        · rw [HQI.out] at hr
                          rw [HN.out] at hj
                          exact HNN3.out (Option.some.inj hr) j (by rw [HTKA.out]; exact hj))
                      obtain ⟨bp, hbp⟩ : ∃ bp, backP y = bp := ⟨_, rfl⟩
                      rw [hbp] at HAN ebk
                      have hemp : ((S.length : Int) == 0) = S.isEmpty := by cases S <;> simp; omega
                      obtain ⟨se, hse⟩ : ∃ se, S.isEmpty = se := ⟨_, rfl⟩
                      rw [hse] at hemp HEN
                      clear hfl3 hf03 hcl3 hnn3 hrow3 hno3 hbel3 hbp hse
                      cases an <;> cases en <;> cases qi <;> cases bp <;> cases se <;>
                      · go_wp2
                        go_roundw
                        case rel => exact ⟨i + 1, fr2, by omega, by rw [HAN.out]; rfl, by rw [HEN.out]; rfl, by go_num, HFL3.out, HF03.out, HFIN.out, HROW3.out, HBEL3.out⟩
                        case measure => simp [intOf]; omega
            · obtain rfl : i = l.length := by omega
              rw [List.take_length]
              have HCL2 := Lib.hid (show ∀ k : Nat, k < l.length → rb[k]? = some true → fr[k]? = some true from fun k hk hr => by
                have hrch := (HIR.out.2 k hk).1 hr
                cases hrch with
                | zero => exact HF0.out
                | @step i' j hi' hj =>
                  have hil' : i' < l.length := by
                    apply Classical.byContradiction
                    intro h
                    rw [nxtP_out (by omega)] at hj
                    cases hj
                  exact HCL.out i' hil' ((HIR.out.2 i' hil').2 hi') j hj)
              have HAE := Lib.hid (show l.any backP = false → endsB l rb l.length = true from fun h => some_end HO.out HIR.out h)
              obtain ⟨an, han⟩ : ∃ an, l.any backP = an := ⟨_, rfl⟩
              obtain ⟨en, hen⟩ : ∃ en, endsB l rb l.length = en := ⟨_, rfl⟩
              rw [han, hen] at HAE
              rw [han, hen]
              clear hfl hf0 hcl hrow hbel han hen
              go_wp2
              obtain ⟨wo, hwo⟩ : ∃ z, z = wr := ⟨_, rfl⟩
              subst hwo
              go_loopw [22] (fun u wx => ∃ k : Nat, k ≤ l.length ∧ u = .int .i64 k ∧ wx = wo) (fun u _ => l.length - (intOf u).toNat)
              case atStart => exact ⟨0, Nat.zero_le _, rfl, rfl⟩
              case round =>
                obtain ⟨k, hk, rfl, hwx⟩ := hrel
                subst hwx
                by_cases hkl : k < l.length
                · obtain ⟨qk, hqk⟩ : ∃ q, rb[k]? = some q := ⟨_, List.getElem?_eq_getElem (by rw [HIR.out.1]; exact hkl)⟩
                  obtain ⟨fk, hfk⟩ : ∃ q, fr[k]? = some q := ⟨_, List.getElem?_eq_getElem (by rw [HFL.out]; exact hkl)⟩
                  obtain ⟨br2, or2, hAr, hbr2, ei⟩ := (Y1.out.below HBEL.out (Nat.le_refl _)).at_ hqk
                  injection hAr with hAr
                  injection hAr with hAr1 hAr2
                  subst hAr1 hAr2
                  have c7 := cells_of HROW.out k
                  have c7' : (bcells fr).toArray[k]? = some (.bool fk) := by simp [bcells, hfk]
                  rw [c7'] at c7
                  have hbrw : br < wr.heap.size := by omega
                  have himp : qk = true → fk = true := fun e => by
                    subst e
                    have := HCL2.out k hkl hqk
                    rw [hfk] at this
                    exact Option.some.inj this
                  have HIMP := Lib.hid himp
                  clear hqk hfk c7' himp
                  cases qk with
                  | false =>
                    go_wp2
                    go_roundw
                    case rel => exact ⟨k + 1, by omega, by go_num, by first | rfl | trivial⟩
                    case measure => simp [intOf]; omega
                  | true =>
                    obtain rfl := HIMP.out rfl
                    go_wp2
                    go_roundw
                    case rel => exact ⟨k + 1, by omega, by go_num, by first | rfl | trivial⟩
                    case measure => simp [intOf]; omega
                · have HBF := Lib.hid (B7.out.trans (HBEL.out.mono (by omega)))
                  cases an with
                  | true =>
                    go_wp2
                    go_ret
                    exact ⟨rfl, HBF.out⟩
                  | false =>
                    obtain rfl := HAE.out rfl
                    go_wp2
                    go_ret
                    exact ⟨rfl, HBF.out⟩
        · have hca : covA l s.size hs = [] := by unfold covA; rw [if_neg (by rw [HCF.out]; exact hc0)]
          have hrb0 : rb = [] := RE1.out.2 (by rw [HCF.out]; exact hc0)
          have e1 : (cf != 0) = true := by simpa using hc0
          have e2 : (cf == cf) = true := by simp
          rw [hca]
          subst hrb0
          clear hc0 hca RE1
          go_wp2
          go_ret
          exact ⟨rfl, B4.out⟩
      · have h7 : 40 < hs.length := by omega
        clear h4
        go_wp2
        go_ret
        exact ⟨rfl, B2.out⟩
    · have h7 : 600 < l.length := by omega
      clear h6
      go_wp2
      go_ret
      exact ⟨rfl, B2.out⟩
  · have e1 : (f != 0) = true := by simpa using h0
    clear h0 HORD
    go_wp2
    go_ret
    exact ⟨rfl, B2.out⟩
end Go.Proofs.Ytbeelcklbdnjnaa
