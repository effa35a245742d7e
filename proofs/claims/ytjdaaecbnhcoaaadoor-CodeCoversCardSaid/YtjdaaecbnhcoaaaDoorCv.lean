/-
  WALK of the law CodeCovers.
-/
import Derived.Test.YtjdaaecbnhcoaaaDoorTn
import Derived.Deep.RegionHeld3
import Derived.Deep.DeepCutAuto
import Derived.Deep.LoopGhost
import Derived.Deep.CutBlock
set_option linter.unusedVariables false
set_option linter.unusedSimpArgs false
namespace Go.Proofs.YtjdaaecbnhcoaaaDoor
open Go.RowKit

theorem idx_ge {l : List In} {t : Int} (h : ∃ y ∈ l, y.pc = t) : 0 ≤ idxP l t := by
  unfold idxP
  obtain ⟨y, hy, e⟩ := h
  cases hf : l.findIdx? (fun x => x.pc == t) with
  | some i => simp
  | none =>
    rw [List.findIdx?_eq_none_iff] at hf
    have := hf y hy
    simp [e] at this
theorem idx_self {l : List In} {pc : Nat} {r : List UInt8} (h : Run pc r l) {k : Nat} {x : In} (hk : l[k]? = some x) : idxP l x.pc = k :=
  idx_step hk (fun j y hj hy => by have := run_lt l pc r h j k y x hj hy hk; omega) rfl
theorem run_wid : ∀ (l : List In) (pc : Nat) (r : List UInt8), Run pc r l → ∀ x ∈ l, x.pc + widP x ≤ pc + r.length
  | [], _, _, _, x, h => by simp at h
  | y :: l, pc, r, hr, x, h => by
    obtain ⟨h1, h2, h3, h4, h5⟩ := hr
    rcases List.mem_cons.1 h with rfl | h
    · omega
    · have := run_wid l _ _ h5 x h
      simp only [List.length_drop] at this
      omega
set_option maxRecDepth 1000000 in
set_option maxHeartbeats 12800000 in
theorem covers_walk (s : ByteArray) (w : World) (hN : Names w) :
    Calls Tryd.prog 6 #[.string s] w fun e w' => e = .returned (.bool true) ∧ Below w.heap.size w w' := by
  have N0 := Lib.hid hN
  clear hN
  by_cases hs4 : s.size ≤ 4096
  · have HDS := fun W => Lib.hid (Decode_any s W)
    by_cases hs : decE (L s) = 0
    · obtain ⟨s1, s2, s3, s4, s5⟩ := decE_ok hs
      have hne := insP_ne s1 s3
      have HRUN := Lib.hid (run_of _ _ _ (Nat.le_refl _) s3)
      rw [← s5] at hne s4 HRUN
      rw [hs] at HDS
      obtain ⟨j1, j2⟩ := flow_ok s4
      have HJ := Lib.hid (jumps_mem.1 j1)
      obtain ⟨la, hla⟩ : ∃ l, decL (L s) = l := ⟨_, rfl⟩
      rw [hla] at HDS hne HRUN HJ j2
      obtain ⟨n, hn⟩ : ∃ n, la.length = n + 1 := ⟨la.length - 1, by have := List.length_pos_iff.2 hne; omega⟩
      have hn4 : n + 1 ≤ 4096 := by have := run_len _ _ _ HRUN.out; rw [← size_L] at this; omega
      have hz0 := List.getElem?_eq_getElem (show 0 < la.length by omega)
      generalize la[0] = z0 at hz0
      have hzn := List.getElem?_eq_getElem (show n < la.length by omega)
      generalize la[n] = zn at hzn
      rw [last_of (x := zn) (by rw [hn]; exact hzn)] at j2
      have hz0p : z0.pc = 0 := by obtain ⟨q, a1, _, _, _, _, a6⟩ := run_at _ _ _ HRUN.out 0 z0 hz0; rw [a1, a6 rfl]; rfl
      have Z0 := Lib.hid hz0
      have ZN := Lib.hid hzn
      have Z0P := Lib.hid hz0p
      have HEND := fun W => Lib.hid (show Calls Tryd.prog 17 #[.int .i64 zn.op] W fun e w' => e = .returned (.bool true) ∧ W = w' from j2 ▸ ends_any zn.op W)
      have HN := Lib.hid hn
      clear hs s1 s2 s3 s4 s5 hne hla j1 j2 hz0 hzn hz0p
      go_enter Tryd.func6, Tryd.ntmps6
      go_wp2_with fail
      refine (shown_any _ N0.out).mono ?_
      rintro e w1 ⟨rfl, hb⟩
      have B1 := Lib.hid hb
      clear hb
      go_wp2_with fail
      refine (HDS _).out.mono ?_
      rintro e w2 ⟨va, rfl, hoa, hb⟩
      have B2 := Lib.hid (Below.link B1.out hb)
      obtain ⟨Aa, ca, hva, hca, hma⟩ := hoa.row.form
      rw [hn] at hva hca
      subst hva
      have RA := Lib.hid hoa.row
      clear hb hoa hn hma
      have r0 := RA.out.at_ Z0.out
      have rn := RA.out.at_ ZN.out
      obtain ⟨ba, oa, _, _, _, _, rfl, hbb, -, -, x0, -, -, -, -⟩ := r0
      obtain ⟨bc, oc, _, _, _, _, e2, -, -, -, -, y1, -, -, -⟩ := rn
      injection e2 with e2
      injection e2 with e2 e3
      subst e2 e3
      simp only [Nat.zero_mul, Nat.add_zero, Z0P.out] at x0
      go_wp2_with fail
      refine (HEND _).out.mono ?_
      rintro e w3 ⟨rfl, rfl⟩
      clear x0 y1 HEND
      go_wp2
      go_loopg [6] (n + 1) (fun g i wx => ∃ k : Nat, i = .int .i64 k ∧ k + g = n + 1 ∧ Below w2.heap.size w2 wx)
      case atStart => exact ⟨0, rfl, by omega, Below.refl _ _⟩
      case round =>
        obtain ⟨k, rfl, hkg, hb⟩ := hrel
        obtain ⟨wo, hwo⟩ : ∃ wo, wo = wr := ⟨_, rfl⟩
        subst hwo
        have HBE := Lib.hid hb
        have hsz := hb.size
        clear hb
        by_cases hlt : k < n + 1
        · have hgg : gk - 1 < gk := by omega
          have hkl : k < la.length := by have := HN.out; omega
          have hx := List.getElem?_eq_getElem hkl
          generalize la[k] = x at hx
          obtain ⟨q, q1, q2, q3, q4, q5, _⟩ := run_at _ _ _ HRUN.out k x hx
          rw [← size_L] at q2 q5
          have hxp : x.pc = q := by omega
          have hxo : x.op = ((s[q]'q2).toNat : Int) := by rw [q3, ← get_b1 s q q2]
          have hb256 : ((s[q]'q2).toNat : Int) < 256 := by have := (s[q]'q2).toNat_lt; omega
          have hww : ∃ wd, widP x = wd := ⟨_, rfl⟩
          obtain ⟨wd, hwd⟩ := hww
          rw [hwd] at q4 q5
          have HWD := Lib.hid hwd
          have HXO := Lib.hid hxo
          have HXP := Lib.hid hxp
          have HQ4 := Lib.hid q4
          have HQ5 := Lib.hid q5
          have HX := Lib.hid hx
          have hself := idx_self HRUN.out hx
          rw [hxp] at hself
          have HSELF := Lib.hid hself
          have RO := Lib.hid (RA.out.below HBE.out (Nat.le_refl _))
          obtain ⟨b, o, Ak, ck, At, ct, e1, hbB, hks, hto, c0, c1, c2, c3, c4⟩ := RO.out.at_ hx
          injection e1 with e1
          injection e1 with e1 e2
          subst e1 e2
          rw [hxp] at c0
          rw [hxo] at c1
          have HTO := Lib.hid hto
          obtain ⟨_, _, _, hck', hkm⟩ := hks.form
          unfold maxLen at hkm
          obtain ⟨_, _, _, hct', htm⟩ := hto.form
          unfold maxLen at htm
          clear hx q1 q3 q4 q5 hwd hxo hxp hself hks hto
          go_upto_if 69 with fail
          go_cut [7] (fun a wx => a = .int .i64 wd ∧ ∃ m, wx = wo.drewN m)
          case first =>
            by_cases hnx : k < n
            · have hnx' : k + 1 < n + 1 := by omega
              have hy := List.getElem?_eq_getElem (show k + 1 < la.length by have := HN.out; omega)
              generalize la[k + 1]'(by have := HN.out; omega) = y at hy
              have hyp := HQ4.out y hy
              rw [HXP.out] at hyp
              obtain ⟨b', o', _, _, _, _, e1, -, -, -, d0, -, -, -, -⟩ := RO.out.at_ hy
              injection e1 with e1
              injection e1 with e1 e2
              subst e1 e2
              rw [hyp] at d0
              obtain ⟨q', a1, a2, -⟩ := run_at _ _ _ HRUN.out (k + 1) y hy
              rw [← size_L] at a2
              have hqw : q + wd < s.size := by omega
              have hw1 : IntKind.i64.wrap ((k : Int) + 1) = (k : Int) + 1 := IntWalk.i64_in _ (by omega)
              have hw2 : IntKind.i64.wrap ((q : Int) + (wd : Int) - (q : Int)) = (wd : Int) := by rw [show (q : Int) + (wd : Int) - (q : Int) = wd by omega]; exact IntWalk.i64_in _ (by omega)
              have hw3 : 0 ≤ (k : Int) + 1 := by omega
              have hw4 : ((k : Int) + 1).toNat = k + 1 := by omega
              clear hy hyp a1 a2
              go_wp2
              go_quiet (fail)
              go_wp2
              go_meet
              exact ⟨rfl, _, rfl⟩
            · have hkn : n ≤ k := by omega
              clear hnx
              have hw2 : (s.size : Int) - (q : Int) = (wd : Int) := by have := HQ5.out (by have := HN.out; omega); have := HXP.out; omega
              have HW2 := Lib.hid hw2
              clear hw2
              go_wp2
              go_meet
              exact ⟨by rw [HW2.out], 0, rfl⟩
          case rest =>
            obtain ⟨rfl, m1, hm1⟩ := hcut
            obtain ⟨wp, hwp⟩ : ∃ wp, wp = wc := ⟨_, rfl⟩
            subst hwp
            have hcell := fun a => (show wp.cell? a = wo.cell? a from by rw [hm1]; rfl)
            have hb1 : Below w2.heap.size w2 wp := by rw [hm1]; exact below_drewN HBE.out m1
            have HB1 := Lib.hid hb1
            have hz1 := hb1.size
            have d0 := (hcell _).trans c0
            have d1 := (hcell _).trans c1
            have d3 := (hcell _).trans c3
            clear hm1 hcell hb1 c0 c1 c2 c3 c4 hsz
            obtain ⟨f, hf⟩ : ∃ f, formP x.op = f := ⟨_, rfl⟩
            have HFO := fun W => Lib.hid (Form_any x.op W)
            rw [hf, HXO.out] at HFO
            have hfi := formP_in x.op
            rw [hf] at hfi
            have HF := Lib.hid hf
            have hwb := run_wid _ _ _ HRUN.out x (List.mem_of_getElem? HX.out)
            rw [HWD.out, HXP.out, ← size_L] at hwb
            clear hf
            go_wp2_with fail
            refine (HFO _).out.mono ?_
            rintro e w3 ⟨rfl, rfl⟩
            clear HFO
            go_upto_block 2 with fail
            go_cut [8, 87] (fun a _ wx => a = .int .i64 wd ∧ wp = wx)
            case first =>
              rcases hfi with rfl | rfl | rfl | rfl | rfl | rfl
              · have hw : wd = 1 := by rw [← HWD.out]; unfold widP; rw [HF.out]; rfl
                have HW := Lib.hid hw
                clear hw
                go_wp2
                go_meet
                exact ⟨by rw [HW.out]; rfl, rfl⟩
              · have hw : wd = 5 + 4 * x.keys.length := by rw [← HWD.out]; unfold widP; rw [HF.out]; rfl
                have hkl4 : x.keys.length ≤ 4096 := by omega
                have HW := Lib.hid hw
                clear hw
                go_wp2
                go_meet
                exact ⟨by rw [HW.out]; first | rfl | (simp; done), rfl⟩
              · have hw : wd = 3 := by rw [← HWD.out]; unfold widP; rw [HF.out]; rfl
                have HW := Lib.hid hw
                clear hw
                go_wp2
                go_meet
                exact ⟨by rw [HW.out]; rfl, rfl⟩
              · have hw : wd = 2 := by rw [← HWD.out]; unfold widP; rw [HF.out]; rfl
                have HW := Lib.hid hw
                clear hw
                go_wp2
                go_meet
                exact ⟨by rw [HW.out]; rfl, rfl⟩
              · have hw : wd = 3 := by rw [← HWD.out]; unfold widP; rw [HF.out]; rfl
                have HW := Lib.hid hw
                clear hw
                go_wp2
                go_meet
                exact ⟨by rw [HW.out]; rfl, rfl⟩
              · have hw : wd = 1 := by rw [← HWD.out]; unfold widP; rw [HF.out]; rfl
                have HW := Lib.hid hw
                clear hw
                go_wp2
                go_meet
                exact ⟨by rw [HW.out]; rfl, rfl⟩
            case rest =>
              obtain ⟨rfl, rfl⟩ := hcut
              have RP := RA.out.below HB1.out (Nat.le_refl _)
              have B1d := HB1.out.drew
              have hpb : w2.heap.size ≤ wp.heap.size := hz1
              have RPd : NRow w2.heap.size wp.drew (Value.slice (some { block := ba, off := oa }) (n + 1) ca) la := RP.keep fun p hp => rfl
              have HIX := fun (W : World) (h1 : NRow w2.heap.size W (Value.slice (some { block := ba, off := oa }) (n + 1) ca) la) (h2 : w2.heap.size ≤ W.heap.size) => Lib.hid (show Calls Tryd.prog 22 #[Value.slice (some { block := ba, off := oa }) (n + 1) ca, .int .i64 q] W fun e w' => e = .returned (.int .i64 k) ∧ Below W.heap.size W w' from by have := Index_any w2.heap.size la _ q W h1 h2; rwa [HSELF.out] at this)
              have hwq : IntKind.i64.wrap ((s[q]'q2).toNat : Int) = ((s[q]'q2).toNat : Int) := IntWalk.i64_in _ (by omega)
              go_wp2
              go_region_held3 (fun w' => w'.cell? ⟨ba, oa + k * 5, none⟩ = some (.int .i64 q) ∧ w'.cell? ⟨ba, oa + k * 5 + 1, none⟩ = some (.int .i64 ((s[q]'q2).toNat : Int)) ∧ w2.heap.size ≤ w'.heap.size ∧ NRow w2.heap.size w' (Value.slice (some { block := ba, off := oa }) (n + 1) ca) la ∧ Below w2.heap.size w2 w')
                (first
                  | exact ⟨d0, d1, hpb, RPd, B1d⟩
                  | (go_split_ands
                     refine ⟨?_, ?_, ?_, ?_, ?_⟩
                     all_goals first
                       | assumption
                       | exact keepc hb (B := w2.heap.size) (by omega) (by omega) (by assumption)
                       | exact Nat.le_trans (by assumption) hb.size
                       | exact NRow.below (by assumption) hb (by omega)
                       | exact Below.trans (by assumption) (hb.mono (by omega))))
                ((go_at_call 22; refine (HIX _ (by first | assumption | (go_split_ands; assumption)) (by go_split_ands; omega)).out.mono ?_; rintro e wi ⟨rfl, hb⟩))
              clear hwq d0 d1 d3 HIX RP RPd B1d
              go_split_ands
              have BI := Lib.hid (show Below w2.heap.size w2 wi by assumption)
              go_wp2
              obtain ⟨g0, hg0⟩ : ∃ g, g = gk := ⟨_, rfl⟩
              subst hg0
              go_loopg [9] x.to.length (fun g j wx => ∃ m : Nat, j = .int .i64 m ∧ m + g = x.to.length ∧ Below w2.heap.size w2 wx)
              case atStart => exact ⟨0, rfl, by omega, BI.out⟩
              case round =>
                obtain ⟨m, rfl, hmg, hb⟩ := hrel
                have BR := Lib.hid hb
                have hzr := hb.size
                have RR := RA.out.below hb (Nat.le_refl _)
                obtain ⟨b', o', Ak', ck', At', ct', e1, hbB', -, hto', x0, x1, x2, x3, x4⟩ := RR.at_ HX.out
                injection e1 with e1
                injection e1 with e1 e2
                subst e1 e2
                have RRH := Lib.hid RR
                clear hb RR x0 x1 x2 x3
                by_cases hml : m < x.to.length
                · have hgg2 : gk - 1 < gk := by omega
                  have ht := List.getElem?_eq_getElem hml
                  generalize x.to[m] = t at ht
                  obtain ⟨p2, o2, rfl, hp2, t0⟩ := hto'.at_ ht
                  have hge := idx_ge (HJ.out x (List.mem_of_getElem? HX.out) t (List.mem_of_getElem? ht))
                  have HIY := Lib.hid (Index_any w2.heap.size la _ t wr RRH.out (by omega))
                  obtain ⟨r, hr⟩ : ∃ r, idxP la t = r := ⟨_, rfl⟩
                  rw [hr] at hge HIY
                  clear hr ht hto'
                  go_wp2_with fail
                  refine HIY.out.mono ?_
                  rintro e w5 ⟨rfl, hb⟩
                  have B5 := Lib.hid (BR.out.trans (hb.mono (by omega)))
                  clear hb
                  go_wp2
                  go_roundg (gk - 1)
                  case measure => exact hgg2
                  case rel => exact ⟨m + 1, by go_num, by omega, B5.out⟩
                · clear hto'
                  go_wp2
                  go_roundg (g0 - 1)
                  case measure => exact hgg
                  case rel => exact ⟨k + 1, by go_num, by omega, BR.out⟩
        · go_wp2
          go_ret
          exact ⟨rfl, Below.link B2.out HBE.out⟩
    · obtain ⟨f, hf⟩ : ∃ f, decE (L s) = f := ⟨_, rfl⟩
      have hdl : decL (L s) = [] := by unfold decL; rw [if_neg hs]
      rw [hf] at hs HDS
      rw [hdl] at HDS
      have e1 : (f == 0) = false := by simpa using hs
      have e1' : (f != 0) = true := by simpa using hs
      clear hf hs hdl
      go_enter Tryd.func6, Tryd.ntmps6
      go_wp2_with fail
      refine (shown_any _ N0.out).mono ?_
      rintro e w1 ⟨rfl, hb⟩
      have B1 := Lib.hid hb
      clear hb
      go_wp2_with fail
      refine (HDS _).out.mono ?_
      rintro e w2 ⟨va, rfl, hoa, hb⟩
      obtain ⟨Aa, ca, rfl⟩ := hoa.form
      have B2 := Lib.hid (Below.link B1.out hb)
      clear hb hoa
      go_wp2
      go_ret
      exact ⟨rfl, B2.out⟩
  · have hs5 : 4096 < s.size := by omega
    clear hs4
    go_enter Tryd.func6, Tryd.ntmps6
    go_wp2_with fail
    refine (shown_any _ N0.out).mono ?_
    rintro e w1 ⟨rfl, hb⟩
    have B1 := Lib.hid hb
    clear hb
    go_wp2
    go_ret
    exact ⟨rfl, B1.out⟩
end Go.Proofs.YtjdaaecbnhcoaaaDoor
