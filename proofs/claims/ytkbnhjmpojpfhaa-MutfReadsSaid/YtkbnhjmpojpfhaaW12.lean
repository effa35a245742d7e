/-
  WALK of the document's own 'Decode'.
-/
import Derived.Test.YtkbnhjmpojpfhaaW11
import Derived.Deep.DeepCutAuto
import Derived.Deep.CutBlock
import Derived.Deep.LoopGhost
namespace Go.Proofs.Ytkbnhjmpojpfhaa
open Go.RowKit

theorem unit_at (s : ByteArray) (w : World) (l : List UInt8) (z : Int) (hl : s.data.toList = l) (h : unitR l = z) :
    Calls Try.prog 32 #[.string s] w fun e w' => e = .returned (.int .i64 z) ∧ ∃ n, w' = w.drewN n := by
  have := unit_any s w
  rw [hl, h] at this
  exact this
theorem mdec_A {l : List UInt8} (hne : l ≠ []) (h1 : 1 ≤ at0 l 0) (h2 : at0 l 0 < 128) : mdec l = (at0 l 0, 1) := by
  have hn : l.length ≠ 0 := by
    intro h
    exact hne (List.eq_nil_of_length_eq_zero h)
  have e : unitL l = (at0 l 0, 1) := by
    unfold unitL unitN
    rw [if_neg hn, if_pos h2, if_neg (by omega)]
  unfold mdec
  rw [e]
  simp only
  rw [if_neg (by omega), if_pos (by unfold Scal; omega)]
def r2 (l : List UInt8) : Nat := (at0 l 0 - 192) * 64 + (at0 l 1 - 128)
theorem mdec_B {l : List UInt8} (h1 : 192 ≤ at0 l 0) (h2 : at0 l 0 < 224) (hl : 2 ≤ l.length) (h3 : 128 ≤ at0 l 1) (h4 : at0 l 1 < 192) (h5 : r2 l = 0 ∨ 128 ≤ r2 l) : mdec l = (r2 l, 2) := by
  have hr : r2 l = at0 l 0 % 32 * 64 + at0 l 1 % 64 := by unfold r2; omega
  have e : unitL l = (r2 l, 2) := by
    rw [hr] at h5 ⊢
    unfold unitL unitN
    rw [if_neg (by omega), if_neg (by omega), if_pos (by omega), if_pos (by omega)]
  have hb : r2 l < 2048 := by unfold r2; omega
  unfold mdec
  rw [e]
  simp only
  rw [if_neg (by omega), if_pos (by unfold Scal; omega)]
theorem mdec_zero {l : List UInt8} (h : unitL l = (0, 0)) : mdec l = (0, 0) := by
  unfold mdec
  rw [h]
  rfl
theorem mdec_Bbad {l : List UInt8} (h1 : 192 ≤ at0 l 0) (h2 : at0 l 0 < 224) (h : l.length < 2 ∨ at0 l 1 < 128 ∨ 192 ≤ at0 l 1 ∨ (1 ≤ r2 l ∧ r2 l < 128)) : mdec l = (0, 0) := by
  have hb := at0_lt l 1
  apply mdec_zero
  unfold unitL unitN
  split
  · rfl
  rw [if_neg (by omega), if_pos (by omega), if_neg]
  unfold r2 at h
  omega
theorem mdec_other {l : List UInt8} (hne : l ≠ []) (h : at0 l 0 = 0 ∨ (128 ≤ at0 l 0 ∧ at0 l 0 < 192) ∨ 224 ≤ at0 l 0) :
    unitL l = (0, 0) ∨ ∃ u, unitL l = (u, 3) ∧ 2048 ≤ u ∧ u < 65536 := by
  have hn : l.length ≠ 0 := by
    intro h
    exact hne (List.eq_nil_of_length_eq_zero h)
  unfold unitL
  rcases unitN_forms l.length (at0 l 0) (at0 l 1) (at0 l 2) (at0_lt _ _) (at0_lt _ _) (at0_lt _ _) with e | ⟨r, e, a, a', hn, b⟩ | ⟨r, e, a, a', n2, b, c⟩ | ⟨r, e, a, a', n3, b, c, d⟩
  · exact .inl e
  · omega
  · omega
  · exact .inr ⟨r, e, a, a'⟩
theorem unitR_three {l : List UInt8} {u : Nat} (h : unitL l = (u, 3)) : unitR l = (u : Int) := by unfold unitR; rw [h]; rfl
theorem unitR_zero {l : List UInt8} (h : unitL l = (0, 0)) : unitR l = -1 := by unfold unitR; rw [h]; rfl
theorem mdec_D {l : List UInt8} {u : Nat} (h : unitL l = (u, 3)) (hs : Scal u) : mdec l = (u, 3) := by
  unfold mdec
  rw [h]
  simp only
  rw [if_neg (by omega), if_pos hs]
theorem mdec_C {l : List UInt8} {u : Nat} (h : unitL l = (u, 3)) (h1 : 55296 ≤ u) (h2 : u < 56320) (v : Nat) (hv : unitR (l.drop 3) = (v : Int)) (h3 : 56320 ≤ v) (h4 : v < 57344) :
    mdec l = (65536 + (u - 55296) * 1024 + (v - 56320), 6) := by
  have e : unitL (l.drop 3) = (v, 3) := by
    unfold unitR at hv
    split at hv
    · rename_i hc
      apply Prod.ext
      · simp only; omega
      · exact hc
    · omega
  unfold mdec
  rw [h]
  simp only
  rw [e, if_neg (by omega), if_neg (by unfold Scal; omega), if_pos (by omega)]
  simp
theorem mdec_Cbad {l : List UInt8} {u : Nat} (h : unitL l = (u, 3)) (h1 : 55296 ≤ u) (h2 : u < 57344) (h3 : 56320 ≤ u ∨ unitR (l.drop 3) < 56320 ∨ 57344 ≤ unitR (l.drop 3)) : mdec l = (0, 0) := by
  unfold mdec
  rw [h]
  simp only
  rw [if_neg (by omega), if_neg (by unfold Scal; omega), if_neg]
  rintro ⟨a, b, c⟩
  have e : (unitL (l.drop 3)).2 = 3 := by
    unfold unitL at b ⊢
    rcases unitN_forms (l.drop 3).length (at0 (l.drop 3) 0) (at0 (l.drop 3) 1) (at0 (l.drop 3) 2) (at0_lt _ _) (at0_lt _ _) (at0_lt _ _) with e | ⟨r, e, x⟩ | ⟨r, e, x⟩ | ⟨r, e, x⟩
    · rw [e] at b; simp at b
    · rw [e] at b; simp only at b; omega
    · rw [e] at b; simp only at b; omega
    · rw [e]
  unfold unitR at h3
  rw [if_pos e] at h3
  omega

theorem mkA_ints (l : List Nat) (h : ∀ r ∈ l, Scal r) : mkA (ints l) = l.flatMap u8 := by
  have ha : (ints l).all scalB = true := by
    rw [List.all_eq_true]
    intro x hx
    obtain ⟨r, hr, rfl⟩ := List.mem_map.1 hx
    rw [scalB_scal]
    exact decide_eq_true (h r hr)
  unfold mkA
  rw [if_pos ha]
  clear ha h
  induction l with
  | nil => rfl
  | cons r l ih =>
    show utfZ (r : Int) ++ (ints l).flatMap utfZ = u8 r ++ l.flatMap u8
    rw [ih]
    rfl
/-- The loop's relation, and what closes it. -/
def DRel (s : ByteArray) (w : World) (x v : Value) (wr : World) : Prop :=
  ∃ (t : ByteArray) (done : List Nat), x = .string t ∧ done.length + t.size ≤ s.size ∧ wr.ownsRow w.heap.size 3 1 v (ints done).length (icells (ints done)) ∧ (mruns (L t)).map (done ++ ·) = mruns (L s) ∧ (∀ r ∈ done, Scal r) ∧ Below w.heap.size w wr
theorem dec_fail {s t : ByteArray} {done : List Nat} (h : (mruns (L t)).map (done ++ ·) = mruns (L s)) (hne : L t ≠ []) (hm : mdec (L t) = (0, 0)) (hs : s.size ≤ 65535) : decA (L s) = [] ∧ decE (L s) = 4 := by
  rw [mruns_cons _ hne, hm] at h
  simp only [if_pos, Option.map_none] at h
  rw [size_L] at hs
  unfold decA decE
  rw [← h, if_pos hs, if_pos hs]
  exact ⟨rfl, rfl⟩
theorem dec_step {s t : ByteArray} {done : List Nat} {r n : Nat} (h : (mruns (L t)).map (done ++ ·) = mruns (L s)) (hne : L t ≠ []) (hm : mdec (L t) = (r, n)) (hn : n ≠ 0) :
    (mruns (L (t.extract n t.size))).map ((done ++ [r]) ++ ·) = mruns (L s) ∧ Scal r ∧ n ≤ t.size ∧ (t.extract n t.size).size = t.size - n := by
  have e1 : L (t.extract n t.size) = (L t).drop n := Lib.extract_to_end t n
  have ht := mdec_take (L t) (by rw [hm]; exact hn)
  have hle := mdec_le (L t)
  rw [hm] at ht hle
  rw [mruns_cons _ hne, hm] at h
  simp only at h
  rw [if_neg hn, Option.map_map] at h
  refine ⟨?_, ht.2.2, by rw [size_L]; exact hle, by rw [size_L, e1, List.length_drop, ← size_L]⟩
  rw [e1, ← h]
  congr 1
  funext x
  simp

/-- What the switch leaves: the rune and its bytes, or -1. -/
def CutR (l : List UInt8) (r n : Value) : Prop :=
  ∃ (zz : Int) (nn : Nat), r = .int .i64 zz ∧ n = .int .i64 nn ∧ ((mdec l = (0, 0) ∧ zz = -1) ∨ (mdec l = (zz.toNat, nn) ∧ nn ≠ 0 ∧ 0 ≤ zz))
theorem cut_bad {l : List UInt8} {nn : Nat} (h : mdec l = (0, 0)) : CutR l (.int .i64 (-1)) (.int .i64 (nn : Int)) := ⟨-1, nn, rfl, rfl, .inl ⟨h, rfl⟩⟩
theorem cut_good {l : List UInt8} {nn rr : Nat} {zz : Int} (h : mdec l = (rr, nn)) (hn : nn ≠ 0) (hz : zz = (rr : Int)) : CutR l (.int .i64 zz) (.int .i64 (nn : Int)) :=
  ⟨zz, nn, rfl, rfl, .inr ⟨by rw [h, hz]; rfl, hn, by omega⟩⟩

set_option maxRecDepth 1000000 in
set_option maxHeartbeats 16000000 in
theorem refDecode_any (s : ByteArray) (w : World) :
    Calls Try.prog 17 #[.string s] w fun e w' => e = .returned (.tuple #[strV (decA (L s)), .int .i64 (decE (L s))]) ∧ Below w.heap.size w w' := by
  by_cases hl : s.size ≤ 65535
  · obtain ⟨i0, hi, hz0, hz1, hz2⟩ := info_parts Try.info3
    go_enter Try.func17, Try.ntmps17
    go_wp2
    go_loopg [0, 4, 5, 6, 7, 8, 9] s.size (fun k x v _ _ _ _ _ wr => DRel s w x v wr ∧ strSize x ≤ k)
    case atStart => exact ⟨⟨s, [], rfl, by simp, World.ownsRow_nil _ _ _ _, by simp, by simp, Below.refl _ _⟩, Nat.le_refl _⟩
    case round =>
      obtain ⟨⟨t, done, rfl, hdt, hown, hrem, hsc, hbel⟩, hgk⟩ := hrel
      have hgk : t.size ≤ gk := hgk
      have HOWN := Lib.hid hown
      have HREM := Lib.hid hrem
      have HSC := Lib.hid hsc
      have hbs := hbel.size
      clear hown hrem hsc
      by_cases hp : 0 < t.size
      · have hne : L t ≠ [] := by
          intro e
          have : t.size = 0 := by rw [size_L, e]; rfl
          omega
        have HNE := Lib.hid hne
        have b0 : (t[0]'hp).toNat = at0 (L t) 0 := at0_get t 0 hp
        have hb256 := at0_lt (L t) 0
        have hc256 : (t[0]'hp).toNat < 256 := by rw [b0]; exact hb256
        have B0 := Lib.hid b0
        obtain ⟨z, hz⟩ : ∃ z, unitR (L t) = z := ⟨_, rfl⟩
        have HZ := Lib.hid (unit_at t wr (L t) z rfl hz)
        have HFAIL := Lib.hid (fun (h : mdec (L t) = (0, 0)) => dec_fail HREM.out hne h hl)
        have HZE := Lib.hid hz
        clear b0 hb256 hne hz
        go_wp2_with fail
        refine HZ.out.mono ?_
        rintro e w1 ⟨rfl, n1, rfl⟩
        have HO1 := Lib.hid (show (wr.drewN n1).ownsRow w.heap.size 3 1 u4 (ints done).length (icells (ints done)) from HOWN.out.kept (row := none) ⟨rfl, rfl, rfl, Nat.le_refl _, fun _ _ _ => rfl⟩ (by cases u4.ownBlock <;> simp))
        have hbel1 : Below w.heap.size w (wr.drewN n1) := below_drewN hbel n1
        have hbs1 := hbel1.size
        generalize wr.drewN n1 = w1 at *
        go_upto_block 2 with fail
        go_cut [5, 6, 9] (fun r n _ wx => CutR (L t) r n ∧ ∃ k, wx = w1.drewN k)
        case first =>
          by_cases cA : 1 ≤ (t[0]'hp).toNat ∧ (t[0]'hp).toNat < 128
          · obtain ⟨a1, a2⟩ := cA
            have hm := Lib.hid (mdec_A HNE.out (by have := B0.out; omega) (by have := B0.out; omega))
            go_wp2
            go_meet
            exact ⟨cut_good (nn := 1) hm.out (by omega) (by rw [← B0.out]), 0, rfl⟩
          by_cases cB : 192 ≤ (t[0]'hp).toNat ∧ (t[0]'hp).toNat < 224
          · obtain ⟨a1, a2⟩ := cB
            by_cases hl2 : 2 ≤ t.size
            · have b1 : (t[1]'hl2).toNat = at0 (L t) 1 := at0_get t 1 hl2
              have h1256 := at0_lt (L t) 1
              have hc1256 : (t[1]'hl2).toNat < 256 := by rw [b1]; exact h1256
              have B1 := Lib.hid b1
              clear b1 h1256 cA
              by_cases cB1 : 128 ≤ (t[1]'hl2).toNat ∧ (t[1]'hl2).toNat < 192
              · obtain ⟨a3, a4⟩ := cB1
                by_cases cB2 : 1 ≤ ((t[0]'hp).toNat - 192) * 64 + ((t[1]'hl2).toNat - 128) ∧ ((t[0]'hp).toNat - 192) * 64 + ((t[1]'hl2).toNat - 128) < 128
                · obtain ⟨a5, a6⟩ := cB2
                  have hf := Lib.hid (mdec_Bbad (l := L t) (by have := B0.out; omega) (by have := B0.out; omega) (by have := B0.out; have := B1.out; unfold r2; omega))
                  go_wp2
                  go_meet
                  exact ⟨cut_bad (nn := 2) hf.out, 0, rfl⟩
                · have hm := Lib.hid (mdec_B (l := L t) (by have := B0.out; omega) (by have := B0.out; omega) (by rw [← size_L]; exact hl2) (by have := B1.out; omega) (by have := B1.out; omega) (by have := B0.out; have := B1.out; unfold r2; omega))
                  have a5 : ((t[0]'hp).toNat - 192) * 64 + ((t[1]'hl2).toNat - 128) < 1 ∨ 128 ≤ ((t[0]'hp).toNat - 192) * 64 + ((t[1]'hl2).toNat - 128) := by omega
                  clear cB2
                  rcases a5 with a5 | a5
                  all_goals
                    go_wp2
                    go_meet
                    refine ⟨cut_good (nn := 2) hm.out (by omega) ?_, 0, rfl⟩
                    have h1 := B0.out
                    have h2 := B1.out
                    unfold r2
                    omega
              · have hf := Lib.hid (mdec_Bbad (l := L t) (by have := B0.out; omega) (by have := B0.out; omega) (by have := B1.out; omega))
                have a3 : (t[1]'hl2).toNat < 128 ∨ (128 ≤ (t[1]'hl2).toNat ∧ 192 ≤ (t[1]'hl2).toNat) := by omega
                clear cB1
                rcases a3 with a3 | ⟨a3, a4⟩
                all_goals
                  go_wp2
                  go_meet
                  exact ⟨cut_bad (nn := 1) hf.out, 0, rfl⟩
            · have hf := Lib.hid (mdec_Bbad (l := L t) (by have := B0.out; omega) (by have := B0.out; omega) (.inl (by rw [← size_L]; omega)))
              clear cA
              go_wp2
              go_meet
              exact ⟨cut_bad (nn := 1) hf.out, 0, rfl⟩
          have hoth := mdec_other HNE.out (by have := B0.out; omega)
          have c3 : ((t[0]'hp).toNat : Int) < 1 ∨ (128 ≤ ((t[0]'hp).toNat : Int) ∧ ((t[0]'hp).toNat : Int) < 192) ∨ 224 ≤ ((t[0]'hp).toNat : Int) := by omega
          have hc0 : 0 ≤ ((t[0]'hp).toNat : Int) := by omega
          have hc255 : ((t[0]'hp).toNat : Int) < 256 := by omega
          clear cA cB hc256
          generalize ((t[0]'hp).toNat : Int) = c at *
          rcases hoth with hu | ⟨u, hu, hu1, hu2⟩
          · have hz1 : z = -1 := by rw [← HZE.out]; exact unitR_zero hu
            have hf := Lib.hid (mdec_zero hu)
            subst hz1
            clear hu
            rcases c3 with c3 | ⟨c3, c4⟩ | c3
            all_goals
              go_wp2
              go_meet
              exact ⟨cut_bad (nn := 1) hf.out, 0, rfl⟩
          · have hz1 : z = (u : Int) := by rw [← HZE.out]; exact unitR_three hu
            have HU := Lib.hid hu
            have hzl : 2048 ≤ z := by omega
            have hzh : z < 65536 := by omega
            have HZ1 := Lib.hid hz1
            clear hu
            by_cases cS : Scal u
            · have hm := Lib.hid (mdec_D HU.out cS)
              have cS2 : z < 55296 ∨ 57344 ≤ z := by unfold Scal at cS; omega
              clear cS hz1 hu1 hu2
              rcases c3 with c3 | ⟨c3, c4⟩ | c3
              all_goals
                rcases cS2 with cS2 | cS2
                all_goals
                  go_wp2
                  go_meet
                  exact ⟨cut_good (nn := 3) hm.out (by omega) HZ1.out, 0, rfl⟩
            · have hu3 : 55296 ≤ u := by unfold Scal at cS; omega
              have hu4 : u < 57344 := by unfold Scal at cS; omega
              have hz3 : 55296 ≤ z := by omega
              have hz4 : z < 57344 := by omega
              clear cS hu1 hu2
              by_cases hu5 : u < 56320
              · have hl3 : 3 ≤ t.size := by
                  have := unitL_at HU.out (by omega)
                  rw [size_L]
                  exact this.1
                obtain ⟨y, hy⟩ : ∃ y, unitR ((L t).drop 3) = y := ⟨_, rfl⟩
                have HY := fun W => Lib.hid (unit_at (t.extract 3 t.size) W ((L t).drop 3) y (Lib.extract_to_end t 3) hy)
                have HYE := Lib.hid hy
                clear hy
                by_cases cy : 56320 ≤ y ∧ y < 57344
                · obtain ⟨cy1, cy2⟩ := cy
                  have hm := Lib.hid (mdec_C HU.out hu3 hu5 y.toNat (by rw [HYE.out]; omega) (by omega) (by omega))
                  have hz5 : z < 56320 := by omega
                  have HR := Lib.hid (show 65536 + (z - 55296) * 1024 + y - 56320 = ((65536 + (u - 55296) * 1024 + (y.toNat - 56320) : Nat) : Int) by omega)
                  clear hz1 hu3 hu4 hu5
                  rcases c3 with c3 | ⟨c3, c4⟩ | c3
                  all_goals
                    go_wp2_with fail
                    refine (HY _).out.mono ?_
                    rintro e w2 ⟨rfl, n2, rfl⟩
                    go_wp2
                    go_meet
                    exact ⟨cut_good (nn := 6) hm.out (by omega) HR.out, n2, rfl⟩
                · have hf := Lib.hid (mdec_Cbad HU.out hu3 hu4 (by rw [HYE.out]; omega))
                  have hz5 : z < 56320 := by omega
                  clear hz1 hu3 hu4 hu5
                  have cy2 : y < 56320 ∨ (56320 ≤ y ∧ 57344 ≤ y) := by omega
                  clear cy
                  rcases c3 with c3 | ⟨c3, c4⟩ | c3
                  all_goals
                    rcases cy2 with cy2 | ⟨cy2, cy3⟩
                    all_goals
                      go_wp2_with fail
                      refine (HY _).out.mono ?_
                      rintro e w2 ⟨rfl, n2, rfl⟩
                      go_wp2
                      go_meet
                      exact ⟨cut_bad (nn := 1) hf.out, n2, rfl⟩
              · have hf := Lib.hid (mdec_Cbad HU.out hu3 hu4 (.inl (by omega)))
                have hz5 : 56320 ≤ z := by omega
                clear hz1 hu3 hu4 hu5
                rcases c3 with c3 | ⟨c3, c4⟩ | c3
                all_goals
                  go_wp2
                  go_meet
                  exact ⟨cut_bad (nn := 1) hf.out, 0, rfl⟩
        case rest =>
          obtain ⟨⟨zz, nn, rfl, rfl, hcase⟩, k2, rfl⟩ := hcut
          have HO2 := Lib.hid (show (w1.drewN k2).ownsRow w.heap.size 3 1 u4 (ints done).length (icells (ints done)) from HO1.out.kept (row := none) ⟨rfl, rfl, rfl, Nat.le_refl _, fun _ _ _ => rfl⟩ (by cases u4.ownBlock <;> simp))
          have hbel2 : Below w.heap.size w (w1.drewN k2) := below_drewN hbel1 k2
          have hbs2 := hbel2.size
          generalize w1.drewN k2 = w2 at *
          rcases hcase with ⟨hm, rfl⟩ | ⟨hm, hnn, hzz⟩
          · obtain ⟨hA, hE⟩ := HFAIL.out hm
            have HA := Lib.hid hA
            have HE := Lib.hid hE
            clear hA hE hm
            go_wp2
            go_ret2
            refine ⟨?_, hbel2⟩
            rw [HA.out, HE.out]
            rfl
          · obtain ⟨hst, hsr, hnl, hes⟩ := dec_step HREM.out HNE.out hm hnn
            have HST := Lib.hid hst
            have HSR := Lib.hid hsr
            have HES := Lib.hid hes
            have HRZ := Lib.hid (show ((zz.toNat : Nat) : Int) = zz by omega)
            have hdl : (ints done).length ≤ 65535 := by rw [ints_length]; omega
            clear hst hsr hes hm
            go_wp2_with (at_builtin; refine wpList_append_own _ rfl (.tmp 102) (.tmp 104) 27 rfl w.heap.size 3 i0 (.int .i64 0) 1 8 Try.underlying27 hi hz0 hz1 hz2 rfl (by decide) _ _ _ rfl (HO2.out.alloc _) ⟨w2.heap.size, 0, none⟩ 1 1 [.int .i64 zz] rfl rfl ?_ ?_ ?_ ?_ ?_ ?_)
            · exact new_cells w2 [.int .i64 zz] 3
            · exact int_cells .i64 [zz]
            · unfold maxLen; omega
            · omega
            · simp; omega
            intro v' w5 hown' hgrow _
            have HO' := Lib.hid hown'
            have hB5 : Below w.heap.size w w5 := (hbel2.alloc (by omega) _).grown hgrow (by simp; omega) (fun k hk => (HO2.out.lt k hk).1)
            clear hown' hgrow
            go_wp2
            go_roundg (t.size - nn)
            case measure => omega
            case rel =>
              refine ⟨⟨t.extract nn t.size, done ++ [zz.toNat], rfl, by have h1 := HES.out; rw [List.length_append]; simp only [List.length_cons, List.length_nil]; omega, ?_, HST.out, ?_, hB5⟩, by simp only [strSize]; rw [HES.out]; exact Nat.le_refl _⟩
              · have := HO'.out
                rw [← HRZ.out] at this
                rw [ints_append, icells_append, List.length_append]
                exact this
              · intro x hx
                rcases List.mem_append.1 hx with h1 | h1
                · exact HSC.out x h1
                · simp at h1; rw [h1]; exact HSR.out
      · have hnil : L t = [] := List.eq_nil_of_length_eq_zero (by rw [← size_L]; omega)
        have hh : mruns (L s) = some done := by
          have := HREM.out
          rw [hnil, mruns_nil] at this
          rw [← this]
          simp
        have hA := Lib.hid (show decA (L s) = done.flatMap Go.Proofs.Ytkbnhjmpojpfhaa.u8 by unfold decA; rw [hh, if_pos (by rw [← size_L]; omega)]; rfl)
        have hE := Lib.hid (show decE (L s) = 0 by unfold decE; rw [hh, if_pos (by rw [← size_L]; omega)]; rfl)
        have HM := Lib.hid (refMake_any u4 (ints done) wr (SlI_own HOWN.out) (by rw [ints_length]; omega))
        have HMK := Lib.hid (mkA_ints done HSC.out)
        clear hnil hh
        go_wp2_with fail
        refine HM.out.mono ?_
        rintro e w1 ⟨rfl, hb1⟩
        have hB := hbel.trans (hb1.mono hbs)
        clear hb1
        go_wp2
        go_ret2
        refine ⟨?_, hB⟩
        rw [hA.out, hE.out, ← HMK.out]
        rfl
  · have hsz := size_L s
    have hA := Lib.hid (show decA (L s) = [] by unfold decA; rw [if_neg (by omega)])
    have hE := Lib.hid (show decE (L s) = 2 by unfold decE; rw [if_neg (by omega)])
    clear hsz
    go_enter Try.func17, Try.ntmps17
    go_wp2
    go_ret2
    refine ⟨?_, Below.refl _ _⟩
    rw [hA.out, hE.out]
    rfl
end Go.Proofs.Ytkbnhjmpojpfhaa
