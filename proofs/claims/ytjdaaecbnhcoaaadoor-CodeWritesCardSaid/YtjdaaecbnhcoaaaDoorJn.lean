/-
  WALK of the law CodeJoins.
-/
import Derived.Test.YtjdaaecbnhcoaaaDoorK9
import Derived.Test.YtjdaaecbnhcoaaaDoorSi
import Derived.Test.YtjdaaecbnhcoaaaDoorPm
set_option linter.unusedVariables false
set_option linter.unusedSimpArgs false
namespace Go.Proofs.YtjdaaecbnhcoaaaDoor
open Go.RowKit

theorem L_append (s t : ByteArray) : L (s ++ t) = L s ++ L t := by simp [L]
theorem sameInts_eq (B : Nat) (a : List Int) (va vb : Value) (w : World) (ha : IRow B w va a) (hb : IRow B w vb a) (hB : B ≤ w.heap.size) :
    Calls Tryd.prog 28 #[va, vb] w fun e w' => e = .returned (.bool true) ∧ ∃ n, w' = w.drewN n := by
  have := sameInts_any B a a va vb w ha hb hB
  rw [decide_eq_true rfl] at this
  exact this
theorem Drawn.cell {w wr : World} (h : Drawn w wr) (a : Addr) : wr.cell? a = w.cell? a := by
  obtain ⟨m, rfl⟩ := h
  rfl
theorem Drawn.keep {B : Nat} {a w wr : World} (h : Drawn w wr) (hb : Below B a w) : Below B a wr := by
  obtain ⟨m, rfl⟩ := h
  exact below_drewN hb m
/-- Bounds of what was read. -/
theorem dec_bd {s : List UInt8} (hs : decE s = 0) : ∀ x ∈ decL s, (0 ≤ x.pc ∧ x.pc < 4096) ∧ ∀ t ∈ x.to, 0 ≤ t ∧ t < 4096 := by
  obtain ⟨s1, s2, s3, s4, s5⟩ := decE_ok hs
  have hr := run_of _ _ _ (Nat.le_refl _) s3
  have hp : ∀ x ∈ (insP 0 s).2, 0 ≤ x.pc ∧ x.pc < 4096 := fun x hx => by
    obtain ⟨i, hi⟩ := List.mem_iff_getElem?.1 hx
    obtain ⟨q, h1, h2, _⟩ := run_at _ _ _ hr i x hi
    omega
  obtain ⟨j1, _⟩ := flow_ok s4
  rw [jumps_mem] at j1
  rw [s5]
  intro x hx
  refine ⟨hp x hx, fun t ht => ?_⟩
  obtain ⟨y, hy, rfl⟩ := j1 x hx t ht
  exact hp y hy
set_option maxRecDepth 1000000 in
set_option maxHeartbeats 6400000 in
theorem joins_walk (s t : ByteArray) (w : World) (hN : Names w) :
    Calls Tryd.prog 8 #[.string s, .string t] w fun e w' => e = .returned (.bool true) ∧ Below w.heap.size w w' := by
  have N0 := Lib.hid hN
  clear hN
  have HDS := fun W => Lib.hid (Decode_any s W)
  have HDT := fun W => Lib.hid (Decode_any t W)
  by_cases hs : decE (L s) = 0
  · rw [hs] at HDS
    by_cases ht : decE (L t) = 0
    · rw [ht] at HDT
      obtain ⟨s1, s2, _⟩ := decE_ok hs
      obtain ⟨t1, t2, _⟩ := decE_ok ht
      rw [← size_L] at s2 t2
      clear s1 t1
      by_cases hl : s.size + t.size ≤ 4096
      · obtain ⟨j1, j2⟩ := dec_join hs ht (by rw [← size_L, ← size_L]; exact hl)
        have HDJ := fun W => Lib.hid (Decode_any (s ++ t) W)
        rw [L_append, j1, j2, ← size_L] at HDJ
        have HBS := Lib.hid (dec_bd hs)
        have HBT := Lib.hid (dec_bd ht)
        obtain ⟨la, hla⟩ : ∃ l, decL (L s) = l := ⟨_, rfl⟩
        obtain ⟨lb, hlb⟩ : ∃ l, decL (L t) = l := ⟨_, rfl⟩
        rw [hla] at HDS HDJ HBS
        rw [hlb] at HDT HDJ HBT
        clear hs ht j1 j2 hla hlb
        go_enter Tryd.func8, Tryd.ntmps8
        go_wp2_with fail
        refine (shown_any _ N0.out).mono ?_
        rintro e w1 ⟨rfl, hb⟩
        have B1 := Lib.hid hb
        clear hb
        go_wp2_with fail
        refine (HDS _).out.mono ?_
        rintro e w2 ⟨va, rfl, hoa, hb⟩
        have B2 := Lib.hid (Below.link B1.out hb)
        have RA2 := Lib.hid hoa.row
        have z2 := hb.size
        clear hb hoa
        go_wp2_with fail
        refine (HDT _).out.mono ?_
        rintro e w3 ⟨vb, rfl, hob, hb⟩
        have B3 := Lib.hid (Below.link B2.out hb)
        have RA3 := Lib.hid ((RA2.out.below hb (Nat.le_refl _)).more hb.size)
        have RB3 := Lib.hid hob.row
        have z3 := hb.size
        clear hb hob RA2
        go_wp2_with fail
        refine (HDJ _).out.mono ?_
        rintro e w4 ⟨vc, rfl, hoc, hb⟩
        have B4 := Lib.hid (Below.link B3.out hb)
        have RA4 := Lib.hid ((RA3.out.below hb (Nat.le_refl _)).more hb.size)
        have RB4 := Lib.hid ((RB3.out.below hb (Nat.le_refl _)).more hb.size)
        have RC4 := Lib.hid hoc.row
        have z4 := hb.size
        clear hb hoc RA3 RB3
        obtain ⟨Aa, ca, rfl, hca, hma⟩ := RA4.out.form
        obtain ⟨Ab, cb, rfl, hcb, hmb⟩ := RB4.out.form
        obtain ⟨Ac, cc, rfl, hcc, hmc⟩ := RC4.out.form
        unfold maxLen at hma hmb hmc
        have hlc : (la ++ lb.map (shI s.size)).length = la.length + lb.length := by simp
        obtain ⟨lc, hlcd⟩ : ∃ l, la ++ lb.map (shI s.size) = l := ⟨_, rfl⟩
        have HLC := Lib.hid hlcd
        rw [hlcd] at RC4 hlc hcc hmc ⊢
        rw [hlc] at RC4 hcc hmc ⊢
        clear hlcd hlc
        go_wp2
        go_loopw [12] (fun i wr => ∃ k : Nat, k ≤ la.length + lb.length ∧ i = .int .i64 k ∧ Below w4.heap.size w4 wr) (fun i _ => la.length + lb.length - (intOf i).toNat)
        case atStart => exact ⟨0, Nat.zero_le _, rfl, Below.refl _ _⟩
        case round =>
          obtain ⟨k, hk, rfl, hb⟩ := hrel
          obtain ⟨wo, hwo⟩ : ∃ wo, wo = wr := ⟨_, rfl⟩
          subst hwo
          have HBE := Lib.hid hb
          have hsz := hb.size
          clear hb
          by_cases hlt : k < la.length + lb.length
          · by_cases hka : k < la.length
            · have hx := List.getElem?_eq_getElem hka
              generalize la[k] = x at hx
              have hz : lc[k]? = some x := by rw [← HLC.out, List.getElem?_append_left hka]; exact hx
              obtain ⟨ba, oa, Ak, ck, At, ct, rfl, hbb, hk1, ht1, x0, x1, x2, x3, x4⟩ := (RA4.out.below HBE.out (Nat.le_refl _)).at_ hx
              obtain ⟨bc, oc, Ak', ck', At', ct', rfl, hbc, hk2, ht2, z0, z1, z2, z3, z4⟩ := (RC4.out.below HBE.out (Nat.le_refl _)).at_ hz
              have HBD := Lib.hid (HBS.out x (List.mem_of_getElem? hx))
              have hxp := HBD.out.1
              obtain ⟨_, _, _, hc1, hm1⟩ := ht1.form
              unfold maxLen at hm1
              have hbbw : ba < wo.heap.size := by omega
              have hbcw : bc < wo.heap.size := by omega
              have HK1 := Lib.hid hk1
              have HT1 := Lib.hid ht1
              have HK2 := Lib.hid hk2
              have HT2 := Lib.hid ht2
              clear hx hz hk1 ht1 hk2 ht2
              go_wp2
              go_quiet ((go_at_call 28; exact Calls.quiet_of (sameInts_eq w4.heap.size x.keys _ _ _ ((HK2.out.alloc hsz _).drewN _) ((HK1.out.alloc hsz _).drewN _) (le_alloc hsz _))))
              go_wp2
              go_quiet (fail)
              go_wp2
              go_loopw [16] (fun j wr => ∃ m' : Nat, m' ≤ x.to.length ∧ j = .int .i64 m' ∧ Drawn (wo.alloc (.cells #[.int .i64 x.pc, .int .i64 x.op, .int .i64 x.n, .slice Ak x.keys.length ck, .slice At x.to.length ct] 43)) wr) (fun j _ => x.to.length - (intOf j).toNat)
              case atStart => exact ⟨0, Nat.zero_le _, rfl, by first | with_reducible exact Drawn.step (Drawn.refl _) _ | with_reducible exact Drawn.step (Drawn.step (Drawn.refl _) _) _⟩
              case round =>
                obtain ⟨m', hm', rfl, hd⟩ := hrel
                have HD := Lib.hid hd
                have hdz := hd.size
                simp only [size_alloc] at hdz
                have hdz1 : wo.heap.size < wr.heap.size := by omega
                have hbcx : bc < wr.heap.size := by omega
                have hwx : w4.heap.size ≤ wr.heap.size := by omega
                have b4 : wr.cell? ⟨wo.heap.size, 4, none⟩ = some (.slice At x.to.length ct) := (hd.cell _).trans (cells_of (heap_new wo (.cells #[.int .i64 x.pc, .int .i64 x.op, .int .i64 x.n, .slice Ak x.keys.length ck, .slice At x.to.length ct] 43)) 4)
                have y4 : wr.cell? ⟨bc, oc + k * 5 + 4, none⟩ = some (.slice At' x.to.length ct') := (hd.cell _).trans ((World.cell?_alloc_lt wo _ _ hbcw).trans z4)
                clear hd hdz
                by_cases hml : m' < x.to.length
                · have hu := List.getElem?_eq_getElem hml
                  generalize x.to[m'] = u at hu
                  have HU := Lib.hid (HBD.out.2 u (List.mem_of_getElem? hu))
                  have hub := HU.out
                  have r1 := (HD.out.irow (HT1.out.alloc hsz (.cells #[.int .i64 x.pc, .int .i64 x.op, .int .i64 x.n, .slice Ak x.keys.length ck, .slice At x.to.length ct] 43))).at_ hu
                  have r2 := (HD.out.irow (HT2.out.alloc hsz (.cells #[.int .i64 x.pc, .int .i64 x.op, .int .i64 x.n, .slice Ak x.keys.length ck, .slice At x.to.length ct] 43))).at_ (c := u) (hu)
                  obtain ⟨p1, q1, rfl, hp1, c1⟩ := r1
                  obtain ⟨p2, q2, rfl, hp2, c2⟩ := r2
                  have hp1w : p1 < wr.heap.size := by omega
                  have hp2w : p2 < wr.heap.size := by omega
                  have hw2 : IntKind.i64.wrap (u + 0) = u + 0 := IntWalk.i64_in _ (by omega)
                  clear hu
                  go_wp2
                  go_quiet (fail)
                  go_wp2
                  go_roundw
                  case rel => exact ⟨m' + 1, by omega, by go_num, HD.out.step _⟩
                  case measure => simp [intOf]; omega
                · go_wp2
                  go_roundw
                  case rel => exact ⟨k + 1, by omega, by go_num, HD.out.keep (HBE.out.alloc hsz _)⟩
                  case measure => simp [intOf]; omega
            · obtain ⟨m, rfl⟩ : ∃ m, k = la.length + m := ⟨k - la.length, by omega⟩
              have hkb : m < lb.length := by omega
              have hx := List.getElem?_eq_getElem hkb
              generalize lb[m] = x at hx
              have hz : lc[la.length + m]? = some (shI s.size x) := by
                rw [← HLC.out, List.getElem?_append_right (by omega), List.getElem?_map, show la.length + m - la.length = m by omega, hx]
                rfl
              obtain ⟨ba, oa, Ak, ck, At, ct, rfl, hbb, hk1, ht1, x0, x1, x2, x3, x4⟩ := (RB4.out.below HBE.out (Nat.le_refl _)).at_ hx
              obtain ⟨bc, oc, Ak', ck', At', ct', rfl, hbc, hk2, ht2, z0, z1, z2, z3, z4⟩ := (RC4.out.below HBE.out (Nat.le_refl _)).at_ hz
              have HBD := Lib.hid (HBT.out x (List.mem_of_getElem? hx))
              have hsub : ((la.length + m : Nat) : Int) - (la.length : Int) = m := by omega
              have hxp := HBD.out.1
              obtain ⟨_, _, _, hc1, hm1⟩ := ht1.form
              unfold maxLen at hm1
              have hbbw : ba < wo.heap.size := by omega
              have hbcw : bc < wo.heap.size := by omega
              have HK1 := Lib.hid hk1
              have HT1 := Lib.hid ht1
              simp only [shI, List.length_map] at z0 z1 z2 z3 z4 hk2 ht2
              have HK2 := Lib.hid hk2
              have HT2 := Lib.hid ht2
              have hw1 : IntKind.i64.wrap (x.pc + (s.size : Int)) = x.pc + (s.size : Int) := IntWalk.i64_in _ (by omega)
              clear hx hz hk1 ht1 hk2 ht2
              go_wp2
              go_quiet ((go_at_call 28; exact Calls.quiet_of (sameInts_eq w4.heap.size x.keys _ _ _ ((HK2.out.alloc hsz _).drewN _) ((HK1.out.alloc hsz _).drewN _) (le_alloc hsz _))))
              go_wp2
              go_quiet (fail)
              go_wp2
              go_loopw [16] (fun j wr => ∃ m' : Nat, m' ≤ x.to.length ∧ j = .int .i64 m' ∧ Drawn (wo.alloc (.cells #[.int .i64 x.pc, .int .i64 x.op, .int .i64 x.n, .slice Ak x.keys.length ck, .slice At x.to.length ct] 43)) wr) (fun j _ => x.to.length - (intOf j).toNat)
              case atStart => exact ⟨0, Nat.zero_le _, rfl, by first | with_reducible exact Drawn.step (Drawn.refl _) _ | with_reducible exact Drawn.step (Drawn.step (Drawn.refl _) _) _⟩
              case round =>
                obtain ⟨m', hm', rfl, hd⟩ := hrel
                have HD := Lib.hid hd
                have hdz := hd.size
                simp only [size_alloc] at hdz
                have hdz1 : wo.heap.size < wr.heap.size := by omega
                have hbcx : bc < wr.heap.size := by omega
                have hwx : w4.heap.size ≤ wr.heap.size := by omega
                have b4 : wr.cell? ⟨wo.heap.size, 4, none⟩ = some (.slice At x.to.length ct) := (hd.cell _).trans (cells_of (heap_new wo (.cells #[.int .i64 x.pc, .int .i64 x.op, .int .i64 x.n, .slice Ak x.keys.length ck, .slice At x.to.length ct] 43)) 4)
                have y4 : wr.cell? ⟨bc, oc + (la.length + m) * 5 + 4, none⟩ = some (.slice At' x.to.length ct') := (hd.cell _).trans ((World.cell?_alloc_lt wo _ _ hbcw).trans z4)
                clear hd hdz
                by_cases hml : m' < x.to.length
                · have hu := List.getElem?_eq_getElem hml
                  generalize x.to[m'] = u at hu
                  have HU := Lib.hid (HBD.out.2 u (List.mem_of_getElem? hu))
                  have hub := HU.out
                  have r1 := (HD.out.irow (HT1.out.alloc hsz (.cells #[.int .i64 x.pc, .int .i64 x.op, .int .i64 x.n, .slice Ak x.keys.length ck, .slice At x.to.length ct] 43))).at_ hu
                  have r2 := (HD.out.irow (HT2.out.alloc hsz (.cells #[.int .i64 x.pc, .int .i64 x.op, .int .i64 x.n, .slice Ak x.keys.length ck, .slice At x.to.length ct] 43))).at_ (c := u + (s.size : Int)) (by rw [List.getElem?_map, hu]; rfl)
                  obtain ⟨p1, q1, rfl, hp1, c1⟩ := r1
                  obtain ⟨p2, q2, rfl, hp2, c2⟩ := r2
                  have hp1w : p1 < wr.heap.size := by omega
                  have hp2w : p2 < wr.heap.size := by omega
                  have hw2 : IntKind.i64.wrap (u + (s.size : Int)) = u + (s.size : Int) := IntWalk.i64_in _ (by omega)
                  clear hu
                  go_wp2
                  go_quiet (fail)
                  go_wp2
                  go_roundw
                  case rel => exact ⟨m' + 1, by omega, by go_num, HD.out.step _⟩
                  case measure => simp [intOf]; omega
                · go_wp2
                  go_roundw
                  case rel => exact ⟨(la.length + m) + 1, by omega, by go_num, HD.out.keep (HBE.out.alloc hsz _)⟩
                  case measure => simp [intOf]; omega
          · go_wp2
            go_ret
            exact ⟨rfl, Below.link B4.out HBE.out⟩
      · have hl' : 4096 < s.size + t.size := by omega
        clear hl hs ht
        go_enter Tryd.func8, Tryd.ntmps8
        go_wp2_with fail
        refine (shown_any _ N0.out).mono ?_
        rintro e w1 ⟨rfl, hb⟩
        have B1 := Lib.hid hb
        clear hb
        go_wp2_with fail
        refine (HDS _).out.mono ?_
        rintro e w2 ⟨va, rfl, hoa, hb⟩
        have B2 := Lib.hid (Below.link B1.out hb)
        clear hb hoa
        go_wp2_with fail
        refine (HDT _).out.mono ?_
        rintro e w3 ⟨vb, rfl, hob, hb⟩
        have B3 := Lib.hid (Below.link B2.out hb)
        clear hb hob
        go_wp2
        go_ret
        exact ⟨rfl, B3.out⟩
    · obtain ⟨f, hf⟩ : ∃ f, decE (L t) = f := ⟨_, rfl⟩
      rw [hf] at ht HDT
      have e1 : (f == 0) = false := by simpa using ht
      have e1' : (f != 0) = true := by simpa using ht
      clear hf ht hs
      go_enter Tryd.func8, Tryd.ntmps8
      go_wp2_with fail
      refine (shown_any _ N0.out).mono ?_
      rintro e w1 ⟨rfl, hb⟩
      have B1 := Lib.hid hb
      clear hb
      go_wp2_with fail
      refine (HDS _).out.mono ?_
      rintro e w2 ⟨va, rfl, hoa, hb⟩
      have B2 := Lib.hid (Below.link B1.out hb)
      clear hb hoa
      go_wp2_with fail
      refine (HDT _).out.mono ?_
      rintro e w3 ⟨vb, rfl, hob, hb⟩
      have B3 := Lib.hid (Below.link B2.out hb)
      clear hb hob
      go_wp2
      go_ret
      exact ⟨rfl, B3.out⟩
  · obtain ⟨f, hf⟩ : ∃ f, decE (L s) = f := ⟨_, rfl⟩
    rw [hf] at hs HDS
    have e1 : (f == 0) = false := by simpa using hs
    have e1' : (f != 0) = true := by simpa using hs
    clear hf hs
    go_enter Tryd.func8, Tryd.ntmps8
    go_wp2_with fail
    refine (shown_any _ N0.out).mono ?_
    rintro e w1 ⟨rfl, hb⟩
    have B1 := Lib.hid hb
    clear hb
    go_wp2_with fail
    refine (HDS _).out.mono ?_
    rintro e w2 ⟨va, rfl, hoa, hb⟩
    have B2 := Lib.hid (Below.link B1.out hb)
    clear hb hoa
    go_wp2_with fail
    refine (HDT _).out.mono ?_
    rintro e w3 ⟨vb, rfl, hob, hb⟩
    have B3 := Lib.hid (Below.link B2.out hb)
    clear hb hob
    go_wp2
    go_ret
    exact ⟨rfl, B3.out⟩
end Go.Proofs.YtjdaaecbnhcoaaaDoor
