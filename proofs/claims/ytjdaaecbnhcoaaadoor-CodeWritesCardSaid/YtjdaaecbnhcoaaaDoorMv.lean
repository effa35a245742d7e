/-
  WALK of the law CodeMoves.
-/
import Derived.Test.YtjdaaecbnhcoaaaDoorK9
import Derived.Test.YtjdaaecbnhcoaaaDoorJn
set_option linter.unusedVariables false
set_option linter.unusedSimpArgs false
namespace Go.Proofs.YtjdaaecbnhcoaaaDoor
open Go.RowKit

set_option maxRecDepth 1000000 in
set_option maxHeartbeats 1600000 in
theorem pick_any (c n : Int) (hc1 : -9223372036854775808 ≤ c) (hc2 : c ≤ 9223372036854775807) (hn : 0 < n) (hn2 : n ≤ 1000000) (w : World) :
    Calls Tryd.prog 27 #[.int .i64 c, .int .i64 n] w fun e w' => ∃ r : Int, e = .returned (.int .i64 r) ∧ 0 ≤ r ∧ r < n ∧ w = w' := by
  have hne : n ≠ 0 := by omega
  by_cases h : c < 0
  · have hw1 : IntKind.i64.wrap (c + 1) = c + 1 := IntWalk.i64_in _ (by omega)
    have hw2 : IntKind.i64.wrap (-(c + 1)) = -(c + 1) := IntWalk.i64_in _ (by omega)
    go_enter Tryd.func27, Tryd.ntmps27
    go_wp2
    go_ret
    have e1 : -(c + 1).tmod n = (-(c + 1)).tmod n := (Int.neg_tmod _ _).symm
    exact ⟨_, rfl, by rw [e1]; exact Int.tmod_nonneg _ (by omega), by rw [e1]; exact Int.tmod_lt_of_pos _ hn, rfl⟩
  · go_enter Tryd.func27, Tryd.ntmps27
    go_wp2
    go_ret
    exact ⟨_, rfl, Int.emod_nonneg _ hne, Int.emod_lt_of_pos _ hn, rfl⟩
/-- So many bytes 0, laid anew. -/
def zerosB (n : Nat) : ByteArray := ⟨(List.replicate n (0 : UInt8)).toArray⟩
theorem L_zerosB (n : Nat) : L (zerosB n) = List.replicate n 0 := by simp [L, zerosB]
theorem make_zeros (w : World) (n : Nat) (hn : n ≤ 1000000) : ∃ v w', (Instr.makeSlice 46 (.int .i64 (n : Int)) (.int .i64 (n : Int))).run Tryd.prog w = .ok v w' ∧ Below w.heap.size w w' ∧ (convert 46 9 v).run Tryd.prog w' = .ok (.string (zerosB n)) w' := by
  obtain ⟨i0, hi, hz0, hz1, hz2⟩ : ∃ i, Tryd.prog.info? 5 = some i ∧ i.zero = some (.int .u8 0) ∧ i.size = 1 ∧ i.bytes = 1 := info_parts (by kernel_rfl)
  obtain ⟨w', hr, hown, hg⟩ := run_make_full (P := Tryd.prog) w w.heap.size 46 5 i0 (.int .u8 0) 1 Tryd.underlying46 hi hz0 hz1 .i64 .i64 n (by rw [hz2]; omega) (by unfold maxLen; omega) (Nat.le_refl _)
  refine ⟨_, w', hr, (Below.refl _ _).grown hg (Nat.le_refl _) (fun k hk => by cases hk), ?_⟩
  have hl : (List.replicate n (0 : UInt8)).length = n := by simp
  have := run_convert_bytes_back (P := Tryd.prog) w' 46 9 5 ⟨w.heap.size, 0, none⟩ n (List.replicate n (0 : UInt8)) Tryd.underlying46 Tryd.underlying5 Tryd.underlying9 (fun j hj => by
    refine hown.cells (g := w.heap.size) rfl j _ ?_
    simp only [List.length_replicate] at hj
    rw [Nat.mul_one]
    show (madeCells #[.int .u8 0] n).toList[j]? = _
    rw [toList_madeCells_one]
    simp [hj])
  rw [hl] at this
  exact this
theorem nopI_len (n : Nat) : (nopI n).length = n := by simp [nopI]
theorem zerosB_size (n : Nat) : (zerosB n).size = n := by rw [size_L, L_zerosB, List.length_replicate]
set_option maxRecDepth 1000000 in
set_option maxHeartbeats 6400000 in
theorem moves_walk (s : ByteArray) (c : Int) (hc1 : -9223372036854775808 ≤ c) (hc2 : c ≤ 9223372036854775807) (hsm : s.size ≤ 140737488355328) (w : World) (hN : Names w) :
    Calls Tryd.prog 7 #[.string s, .int .i64 c] w fun e w' => e = .returned (.bool true) ∧ Below w.heap.size w w' := by
  have N0 := Lib.hid hN
  clear hN
  have HDS := fun W => Lib.hid (Decode_any s W)
  go_enter Tryd.func7, Tryd.ntmps7
  go_wp2_with fail
  refine (shown_any _ N0.out).mono ?_
  rintro e w1 ⟨rfl, hb⟩
  have B1 := Lib.hid hb
  clear hb
  go_wp2_with fail
  refine (pick_any c 50 hc1 hc2 (by omega) (by omega) _).mono ?_
  rintro e w2 ⟨r, rfl, hr0, hr1, rfl⟩
  obtain ⟨n, rfl⟩ : ∃ n : Nat, r = n := ⟨r.toNat, by omega⟩
  by_cases hl : s.size + n ≤ 4096
  · have HDM := fun W => Lib.hid (Decode_any (zerosB n ++ s) W)
    rw [L_append, L_zerosB] at HDM
    have hzs : (zerosB n).size + s.size ≤ 4096 := by rw [zerosB_size]; omega
    by_cases he0 : s.size = 0
    · have hE : decE (L s) = 5 := by unfold decE lenP; rw [← size_L, he0]; rfl
      rw [hE] at HDS
      have e1 := nil_of0 he0
      have e2 := emp_of0 he0
      clear hE he0
      go_wp2_with fail
      refine (HDS _).out.mono ?_
      rintro e w2 ⟨va, rfl, hoa, hb⟩
      have B2 := Lib.hid (Below.link B1.out hb)
      have RA2 := Lib.hid hoa.row
      clear hb hoa
      obtain ⟨vz, w3, hmk, hbz, hcv⟩ := make_zeros w2 n (by omega)
      have B3 := Lib.hid (Below.link B2.out hbz)
      have RA3 := Lib.hid ((RA2.out.below hbz (Nat.le_refl _)).more hbz.size)
      clear hbz RA2
      go_wp2_with fail
      refine (HDM _).out.mono ?_
      rintro e w4 ⟨vc, rfl, hoc, hb⟩
      have B4 := Lib.hid (Below.link B3.out hb)
      have RA4 := Lib.hid ((RA3.out.below hb (Nat.le_refl _)).more hb.size)
      have RC4 := Lib.hid hoc.row
      clear hb hoc RA3 hmk hcv
      go_wp2
      go_ret
      exact ⟨rfl, B4.out⟩
    · have hp : 0 < s.size := by omega
      have e1 := ne_ofpos hp
      have e2 := emp_ofpos hp
      obtain ⟨hmv1, hmv2⟩ := dec_move (s := L s) (n := n) (by rw [← size_L]; exact hl) (sizepos_ne hp)
      by_cases hs : decE (L s) = 0
      · have hf : decE (List.replicate n 0 ++ L s) = 0 := by
          rcases hmv1 with h | h
          · rw [hs] at h; cases h
          · rw [h, hs]
        have hlm := hmv2 hs
        rw [hs] at HDS
        rw [hf, hlm] at HDM
        have HBS := Lib.hid (dec_bd hs)
        obtain ⟨la, hla⟩ : ∃ l, decL (L s) = l := ⟨_, rfl⟩
        rw [hla] at HDS HDM HBS
        clear hs hf hlm hla hmv1 hmv2 he0
        go_wp2_with fail
        refine (HDS _).out.mono ?_
        rintro e w2 ⟨va, rfl, hoa, hb⟩
        have B2 := Lib.hid (Below.link B1.out hb)
        have RA2 := Lib.hid hoa.row
        clear hb hoa
        obtain ⟨vz, w3, hmk, hbz, hcv⟩ := make_zeros w2 n (by omega)
        have B3 := Lib.hid (Below.link B2.out hbz)
        have RA3 := Lib.hid ((RA2.out.below hbz (Nat.le_refl _)).more hbz.size)
        clear hbz RA2
        go_wp2_with fail
        refine (HDM _).out.mono ?_
        rintro e w4 ⟨vc, rfl, hoc, hb⟩
        have B4 := Lib.hid (Below.link B3.out hb)
        have RA4 := Lib.hid ((RA3.out.below hb (Nat.le_refl _)).more hb.size)
        have RC4 := Lib.hid hoc.row
        clear hb hoc RA3 hmk hcv
        obtain ⟨Aa, ca, rfl, hca, hma⟩ := RA4.out.form
        obtain ⟨Ac, cc, rfl, hcc, hmc⟩ := RC4.out.form
        unfold maxLen at hma hmc
        have hlc : (nopI n ++ la.map (shI n)).length = la.length + n := by simp [nopI_len]; omega
        obtain ⟨lc, hlcd⟩ : ∃ l, nopI n ++ la.map (shI n) = l := ⟨_, rfl⟩
        have HLC := Lib.hid hlcd
        rw [hlcd] at RC4 hlc hcc hmc ⊢
        rw [hlc] at RC4 hcc hmc ⊢
        clear hlcd hlc
        go_wp2
        go_loopw [12] (fun i wr => ∃ k : Nat, k ≤ la.length ∧ i = .int .i64 k ∧ Below w4.heap.size w4 wr) (fun i _ => la.length - (intOf i).toNat)
        case atStart => exact ⟨0, Nat.zero_le _, rfl, Below.refl _ _⟩
        case round =>
          obtain ⟨k, hk, rfl, hb⟩ := hrel
          obtain ⟨wo, hwo⟩ : ∃ wo, wo = wr := ⟨_, rfl⟩
          subst hwo
          have HBE := Lib.hid hb
          have hsz := hb.size
          clear hb
          by_cases hlt : k < la.length
          · have hx := List.getElem?_eq_getElem hlt
            generalize la[k] = x at hx
            have hz : lc[k + n]? = some (shI n x) := by
              rw [← HLC.out, List.getElem?_append_right (by rw [nopI_len]; omega), List.getElem?_map, nopI_len, show k + n - n = k by omega, hx]
              rfl
            obtain ⟨ba, oa, Ak, ck, At, ct, rfl, hbb, hk1, ht1, x0, x1, x2, x3, x4⟩ := (RA4.out.below HBE.out (Nat.le_refl _)).at_ hx
            obtain ⟨bc, oc, Ak', ck', At', ct', rfl, hbc, hk2, ht2, z0, z1, z2, z3, z4⟩ := (RC4.out.below HBE.out (Nat.le_refl _)).at_ hz
            have HBD := Lib.hid (HBS.out x (List.mem_of_getElem? hx))
            have hxp := HBD.out.1
            obtain ⟨_, _, _, hc1', hm1⟩ := ht1.form
            unfold maxLen at hm1
            have hbbw : ba < wo.heap.size := by omega
            have hbcw : bc < wo.heap.size := by omega
            have HT1 := Lib.hid ht1
            simp only [shI, List.length_map] at z0 z1 z2 z3 z4 ht2
            have HT2 := Lib.hid ht2
            have hw1 : IntKind.i64.wrap (x.pc + (n : Int)) = x.pc + (n : Int) := IntWalk.i64_in _ (by omega)
            have hkn : ((k : Int) + (n : Int)).toNat = k + n := by omega
            clear hx hz hk1 ht1 hk2 ht2
            go_wp2
            go_quiet (fail)
            go_wp2
            go_loopw [14] (fun j wx => ∃ m' : Nat, m' ≤ x.to.length ∧ j = .int .i64 m' ∧ Drawn (wo.alloc (.cells #[.int .i64 (x.pc + (n : Int)), .int .i64 x.op, .int .i64 x.n, .slice Ak' x.keys.length ck', .slice At' x.to.length ct'] 43)) wx) (fun j _ => x.to.length - (intOf j).toNat)
            case atStart => exact ⟨0, Nat.zero_le _, rfl, by first | with_reducible exact Drawn.step (Drawn.refl _) _ | with_reducible exact Drawn.step (Drawn.step (Drawn.refl _) _) _⟩
            case round =>
              obtain ⟨m', hm', rfl, hd⟩ := hrel
              have HD := Lib.hid hd
              have hdz := hd.size
              simp only [size_alloc] at hdz
              have hdz1 : wo.heap.size < wr.heap.size := by omega
              have hbax : ba < wr.heap.size := by omega
              have hwx : w4.heap.size ≤ wr.heap.size := by omega
              have b4 : wr.cell? ⟨wo.heap.size, 4, none⟩ = some (.slice At' x.to.length ct') := (hd.cell _).trans (cells_of (heap_new wo (.cells #[.int .i64 (x.pc + (n : Int)), .int .i64 x.op, .int .i64 x.n, .slice Ak' x.keys.length ck', .slice At' x.to.length ct'] 43)) 4)
              have y4 : wr.cell? ⟨ba, oa + k * 5 + 4, none⟩ = some (.slice At x.to.length ct) := (hd.cell _).trans ((World.cell?_alloc_lt wo _ _ hbbw).trans x4)
              clear hd hdz
              by_cases hml : m' < x.to.length
              · have hu := List.getElem?_eq_getElem hml
                generalize x.to[m'] = u at hu
                have HU := Lib.hid (HBD.out.2 u (List.mem_of_getElem? hu))
                have hub := HU.out
                have r1 := (HD.out.irow (HT1.out.alloc hsz (.cells #[.int .i64 (x.pc + (n : Int)), .int .i64 x.op, .int .i64 x.n, .slice Ak' x.keys.length ck', .slice At' x.to.length ct'] 43))).at_ hu
                have r2 := (HD.out.irow (HT2.out.alloc hsz (.cells #[.int .i64 (x.pc + (n : Int)), .int .i64 x.op, .int .i64 x.n, .slice Ak' x.keys.length ck', .slice At' x.to.length ct'] 43))).at_ (c := u + (n : Int)) (by rw [List.getElem?_map, hu]; rfl)
                obtain ⟨p1, q1, rfl, hp1, c1⟩ := r1
                obtain ⟨p2, q2, rfl, hp2, c2⟩ := r2
                have hp1w : p1 < wr.heap.size := by omega
                have hp2w : p2 < wr.heap.size := by omega
                have hw2 : IntKind.i64.wrap (u + (n : Int)) = u + (n : Int) := IntWalk.i64_in _ (by omega)
                clear hu
                go_wp2
                go_quiet (fail)
                go_wp2
                go_roundw
                case rel => exact ⟨m' + 1, by omega, by go_num, HD.out.step _⟩
                case measure => simp [intOf]; omega
              · go_wp2
                go_roundw
                case rel => exact ⟨k + 1, by omega, by go_num, HD.out.keep (HBE.out.alloc hsz _)⟩
                case measure => simp [intOf]; omega
          · go_wp2
            go_ret
            exact ⟨rfl, Below.link B4.out HBE.out⟩
      · obtain ⟨f, hf⟩ : ∃ f, decE (L s) = f := ⟨_, rfl⟩
        obtain ⟨g, hg⟩ : ∃ g, decE (List.replicate n 0 ++ L s) = g := ⟨_, rfl⟩
        rw [hf] at hs HDS hmv1
        rw [hg] at HDM hmv1
        have e3 : (f == 0) = false := by simpa using hs
        clear hf hg hs hmv2 he0
        by_cases h12 : f = 12
        · subst h12
          clear hmv1 e3
          go_wp2_with fail
          refine (HDS _).out.mono ?_
          rintro e w2 ⟨va, rfl, hoa, hb⟩
          have B2 := Lib.hid (Below.link B1.out hb)
          have RA2 := Lib.hid hoa.row
          clear hb hoa
          obtain ⟨vz, w3, hmk, hbz, hcv⟩ := make_zeros w2 n (by omega)
          have B3 := Lib.hid (Below.link B2.out hbz)
          have RA3 := Lib.hid ((RA2.out.below hbz (Nat.le_refl _)).more hbz.size)
          clear hbz RA2
          go_wp2_with fail
          refine (HDM _).out.mono ?_
          rintro e w4 ⟨vc, rfl, hoc, hb⟩
          have B4 := Lib.hid (Below.link B3.out hb)
          have RA4 := Lib.hid ((RA3.out.below hb (Nat.le_refl _)).more hb.size)
          have RC4 := Lib.hid hoc.row
          clear hb hoc RA3 hmk hcv
          go_wp2
          go_ret
          exact ⟨rfl, B4.out⟩
        · have hgf : g = f := hmv1.resolve_left h12
          subst hgf
          have e4 : (g == 12) = false := by simpa using h12
          clear hmv1 h12
          go_wp2_with fail
          refine (HDS _).out.mono ?_
          rintro e w2 ⟨va, rfl, hoa, hb⟩
          have B2 := Lib.hid (Below.link B1.out hb)
          have RA2 := Lib.hid hoa.row
          clear hb hoa
          obtain ⟨vz, w3, hmk, hbz, hcv⟩ := make_zeros w2 n (by omega)
          have B3 := Lib.hid (Below.link B2.out hbz)
          have RA3 := Lib.hid ((RA2.out.below hbz (Nat.le_refl _)).more hbz.size)
          clear hbz RA2
          go_wp2_with fail
          refine (HDM _).out.mono ?_
          rintro e w4 ⟨vc, rfl, hoc, hb⟩
          have B4 := Lib.hid (Below.link B3.out hb)
          have RA4 := Lib.hid ((RA3.out.below hb (Nat.le_refl _)).more hb.size)
          have RC4 := Lib.hid hoc.row
          clear hb hoc RA3 hmk hcv
          go_wp2
          go_ret
          exact ⟨rfl, B4.out⟩
  · have hl' : 4096 < (s.size : Int) + (n : Int) := by omega
    clear hl
    go_wp2
    go_ret
    exact ⟨rfl, B1.out⟩
end Go.Proofs.YtjdaaecbnhcoaaaDoor
