/-
  WALK of RefmapMakes.
-/
import Derived.Test.YtgepgbpjdjbelaaRu
set_option linter.unusedVariables false
set_option linter.unusedSimpArgs false
namespace Go.Proofs.Ytgepgbpjdjbelaa
open Go.RowKit

theorem same_eq (B : Nat) (a : List MP) (va vb : Value) (w : World) (ha : MRow B w va a) (hb : MRow B w vb a) (hB : B ≤ w.heap.size) :
    Calls Try.prog 10 #[va, vb] w fun e w' => e = .returned (.bool true) ∧ Below w.heap.size w w' :=
  (same_any B a a va vb w ha hb hB).mono fun e w' h => ⟨by rw [h.1, decide_eq_true rfl], h.2.below⟩
theorem one_map {U : World} {k : Nat} {v1 v2 : Value} {t : TypeId} {m : MP} (h : U.heap[k]? = some (.cells #[v1, v2] t (0, 0))) (r1 : BRow U.heap.size U v1 m.1) (r2 : BRow U.heap.size U v2 m.2) : MRow U.heap.size U (.slice (some ⟨k, 0, none⟩) 1 1) [m] := by
  refine ⟨[(v1, v2)], ⟨rfl, ?_⟩, ?_⟩
  · intro i x p hx hp
    match i, hx, hp with
    | 0, hx, hp =>
      simp only [List.getElem?_cons_zero, Option.some.injEq] at hx hp
      subst hx; subst hp
      exact ⟨r1, r2⟩
    | k + 1, hx, hp => simp at hx
  · exact Row.of_own (own_new (base := 0) (size := 2) (e := t) (cs := [v1, v2]) h (Nat.zero_le _) rfl (by unfold maxLen; omega))
set_option maxRecDepth 1000000 in
set_option maxHeartbeats 6400000 in
theorem makes_any (ss : List SQ) (rs : List Bool) (n : Nat) (AL : Option Addr) (cL : Nat) (vs vr : Value) (B : Nat) (w : World) (hs : SRow B w vs ss) (hr : BRow B w vr rs) (hn : n ≤ 9223372036854775807)
    (hB : B ≤ w.heap.size) (hls : ss.length ≤ 2932031007402) (hle : ∀ s ∈ ss, s.1.length ≤ 4000000000000 ∧ s.2.length ≤ 4000000000000) :
    Calls Try.prog 3 #[vs, vr, .slice AL n cL] w fun e w' => e = .returned (.bool true) ∧ Below w.heap.size w w' := by
  obtain ⟨As, cs, rfl, hcs, hms⟩ := hs.form
  obtain ⟨Ar, cr, rfl, hcr, hmr⟩ := hr.form
  have HS := Lib.hid hs
  have HR := Lib.hid hr
  have HLE := Lib.hid hle
  have HM1 := Lib.hid (fun (W : World) (h : Below w.heap.size w W) => Make_any ss rs n AL cL _ _ B W (hs.below h hB) (Row.keep hr (fun p hp => h.cell (p := p) (by omega))) hn (by have := h.size; omega) hls hle)
  have HM2 := Lib.hid (fun (W : World) (h : Below w.heap.size w W) => refMake_any ss rs n AL cL _ _ B W (hs.below h hB) (Row.keep hr (fun p hp => h.cell (p := p) (by omega))) hn (by have := h.size; omega) hls hle)
  obtain ⟨ls, hl1⟩ : ∃ m, ss.length = m := ⟨_, rfl⟩
  obtain ⟨lr, hl2⟩ : ∃ m, rs.length = m := ⟨_, rfl⟩
  have HL1 := Lib.hid hl1
  rw [hl1] at hcs hms HS hls HM1 HM2 ⊢
  rw [hl2] at hcr hmr HR HM1 HM2 ⊢
  have hlsI : (ls : Int) ≤ 9223372036854775807 := by omega
  clear hs hr hle hl1 hl2
  go_enter Try.func3, Try.ntmps3
  go_wp2_with fail
  refine (shown_any w).mono ?_
  rintro e w1 ⟨rfl, b1⟩
  have B1 := Lib.hid b1
  clear b1
  go_wp2
  go_loopw [8] (fun iv wx => ∃ i : Nat, i ≤ ls ∧ iv = .int .i64 (i : Int) ∧ Below w.heap.size w wx) (fun iv _ => ls - (intOf iv).toNat)
  case atStart => exact ⟨0, Nat.zero_le _, rfl, B1.out⟩
  case round =>
    obtain ⟨i, hin, rfl, hbw⟩ := hrel
    have HBW := Lib.hid hbw
    have hsz := hbw.size
    clear hbw
    by_cases hgo : i < ls ∧ i < 300
    · obtain ⟨hlt, hlt3⟩ := hgo
      have hi2 : (i : Int) < (ls : Int) := by omega
      have hi3 : (i : Int) < 300 := by omega
      obtain ⟨q, hq⟩ : ∃ q, ss[i]? = some q := ⟨_, List.getElem?_eq_getElem (by rw [HL1.out]; exact hlt)⟩
      obtain ⟨b2, o2, A1, c1, A2, c2, rfl, hbB2, k1, k2, y1, y2⟩ := (HS.out.below HBW.out hB).at_ hq
      have K1 := Lib.hid k1
      have K2 := Lib.hid k2
      have Y1 := Lib.hid y1
      have Y2 := Lib.hid y2
      have hbw2 : b2 < wr.heap.size := by omega
      have hBr : B ≤ wr.heap.size := by omega
      have HE := Lib.hid (HLE.out q (List.mem_of_getElem? hq))
      have HCALL := Lib.hid (Of_any q.1 q.2 _ _ B wr K1.out K2.out hBr HE.out.1 HE.out.2)
      clear hq k1 k2
      go_wp2_with fail
      refine HCALL.out.mono ?_
      rintro e W1 ⟨v1, v2, rfl, o1, o2', hb1⟩
      obtain ⟨g1, d1, e1⟩ := o1.form
      obtain ⟨g2, d2, e2⟩ := o2'.form
      rw [List.length_map] at e1 e2
      subst e1
      subst e2
      have hz1 := hb1.size
      have y1' : W1.cell? ⟨b2, o2 + i * 2, none⟩ = _ := (hb1.cell (p := ⟨b2, o2 + i * 2, none⟩) hbw2).trans Y1.out
      have y2' : W1.cell? ⟨b2, o2 + i * 2 + 1, none⟩ = _ := (hb1.cell (p := ⟨b2, o2 + i * 2 + 1, none⟩) hbw2).trans Y2.out
      have hbw3 : b2 < W1.heap.size := by omega
      have hU1 : Below wr.heap.size wr (W1.alloc (.cells #[.slice g1 q.1.length d1, .slice g2 q.2.length d2] 27)) := hb1.alloc hz1 _
      have HB1 := Lib.hid (Below.link' HBW.out hU1)
      have R1 := Lib.hid (show BRow W1.heap.size W1 _ (q.1.map isRefQ) from o1.row)
      have R2 := Lib.hid (show BRow W1.heap.size W1 _ (q.2.map isRefQ) from o2'.row)
      have HCALL2 := Lib.hid (refOf_any q.1 q.2 _ _ B (W1.alloc (.cells #[.slice g1 q.1.length d1, .slice g2 q.2.length d2] 27)) (K1.out.below hU1 hBr) (K2.out.below hU1 hBr) (by have := hU1.size; omega) HE.out.1 HE.out.2)
      clear y1 y2 HCALL hb1 o1 o2' hU1
      go_wp2_with fail
      refine HCALL2.out.mono ?_
      rintro e W2 ⟨v3, v4, rfl, o3, o4, hb2⟩
      obtain ⟨g3, d3, e3⟩ := o3.form
      obtain ⟨g4, d4, e4⟩ := o4.form
      rw [List.length_map] at e3 e4
      subst e3
      subst e4
      have hz2 := hb2.size
      rw [World.size_alloc] at hz2
      have hk1 : W2.heap[W1.heap.size]? = some (.cells #[.slice g1 q.1.length d1, .slice g2 q.2.length d2] 27 (0, 0)) := (hb2.block _ (by rw [World.size_alloc]; omega)).trans (heap_new W1 _)
      have z0 := cells_of hk1 0
      have z1 := cells_of hk1 1
      simp only [List.getElem?_toArray, List.getElem?_cons_succ, List.getElem?_cons_zero] at z0 z1
      have zlt := lt_of_block hk1
      have q1 : BRow W2.heap.size W2 (.slice g1 q.1.length d1) (q.1.map isRefQ) := ((R1.out.below ((Below.refl _ W1).alloc (Nat.le_refl _) (.cells #[.slice g1 q.1.length d1, .slice g2 q.2.length d2] 27)) (Nat.le_refl _)).below hb2 (by simp)).more (by omega)
      have q2 : BRow W2.heap.size W2 (.slice g2 q.2.length d2) (q.2.map isRefQ) := ((R2.out.below ((Below.refl _ W1).alloc (Nat.le_refl _) (.cells #[.slice g1 q.1.length d1, .slice g2 q.2.length d2] 27)) (Nat.le_refl _)).below hb2 (by simp)).more (by omega)
      have q3 : BRow W2.heap.size W2 (.slice g3 q.1.length d3) (q.1.map isRefQ) := o3.row
      have q4 : BRow W2.heap.size W2 (.slice g4 q.2.length d4) (q.2.map isRefQ) := o4.row
      have hU4 : Below W2.heap.size W2 (((W2.alloc (.cells #[.slice g3 q.1.length d3, .slice g4 q.2.length d4] 32)).alloc (.cells #[.slice g1 q.1.length d1, .slice g2 q.2.length d2] 27)).alloc (.cells #[.slice g3 q.1.length d3, .slice g4 q.2.length d4] 32)) := (((Below.refl _ W2).alloc (Nat.le_refl _) _).alloc (by simp) _).alloc (by simp; omega) _
      have n1 := heap_new (W2.alloc (.cells #[.slice g3 q.1.length d3, .slice g4 q.2.length d4] 32)) (.cells #[.slice g1 q.1.length d1, .slice g2 q.2.length d2] 27)
      have n2 := heap_new ((W2.alloc (.cells #[.slice g3 q.1.length d3, .slice g4 q.2.length d4] 32)).alloc (.cells #[.slice g1 q.1.length d1, .slice g2 q.2.length d2] 27)) (.cells #[.slice g3 q.1.length d3, .slice g4 q.2.length d4] 32)
      rw [World.size_alloc] at n1
      rw [World.size_alloc, World.size_alloc] at n2
      have n1' := heap_alloc_lt (o := .cells #[.slice g3 q.1.length d3, .slice g4 q.2.length d4] 32) n1
      have HMA := Lib.hid (one_map (m := ofQ q) n1' ((q1.below hU4 (Nat.le_refl _)).more hU4.size) ((q2.below hU4 (Nat.le_refl _)).more hU4.size))
      have HMB := Lib.hid (one_map (m := ofQ q) n2 ((q3.below hU4 (Nat.le_refl _)).more hU4.size) ((q4.below hU4 (Nat.le_refl _)).more hU4.size))
      have HB4 := Lib.hid (Below.link' (Below.link' HB1.out hb2) hU4)
      have HSAME := Lib.hid (same_eq _ _ _ _ _ HMA.out HMB.out (Nat.le_refl _))
      clear n1 n1' n2 q1 q2 q3 q4 hU4 hb2 o3 o4 hk1 y1' y2' HCALL2
      go_wp2_with fail
      refine HSAME.out.mono ?_
      rintro e W5 ⟨rfl, hb5⟩
      have HB5 := Lib.hid (Below.link' HB4.out hb5)
      clear hb5 z0 z1 zlt HSAME
      go_wp2
      go_roundw
      case rel => exact ⟨i + 1, by omega, by go_num, HB5.out⟩
      case measure => simp [intOf]; omega
    · have hend : (i : Int) < (ls : Int) → ¬ (i : Int) < 300 := fun h => by omega
      clear hgo
      by_cases him : (i : Int) < (ls : Int)
      · have h5 := hend him
        clear hend
        go_wp2_with fail
        refine (HM1.out _ HBW.out).mono ?_
        rintro e W6 ⟨v6, rfl, m6, hb6⟩
        have HB6 := Lib.hid (Below.link' HBW.out hb6)
        have M6 := Lib.hid m6
        clear hb6 m6
        go_wp2_with fail
        refine (HM2.out _ HB6.out).mono ?_
        rintro e W7 ⟨v7, rfl, m7, hb7⟩
        have HB7 := Lib.hid (Below.link' HB6.out hb7)
        have M67 := Lib.hid ((M6.out.below hb7 (Nat.le_refl _)).more hb7.size)
        have M7 := Lib.hid m7
        clear hb7 m7
        go_wp2_with fail
        refine (same_eq _ _ _ _ W7 M67.out M7.out (Nat.le_refl _)).mono ?_
        rintro e W8 ⟨rfl, hb8⟩
        have HB8 := Lib.hid (Below.link' HB7.out hb8)
        clear hb8
        go_wp2
        go_ret
        exact ⟨rfl, HB8.out⟩
      · clear hend
        go_wp2_with fail
        refine (HM1.out _ HBW.out).mono ?_
        rintro e W6 ⟨v6, rfl, m6, hb6⟩
        have HB6 := Lib.hid (Below.link' HBW.out hb6)
        have M6 := Lib.hid m6
        clear hb6 m6
        go_wp2_with fail
        refine (HM2.out _ HB6.out).mono ?_
        rintro e W7 ⟨v7, rfl, m7, hb7⟩
        have HB7 := Lib.hid (Below.link' HB6.out hb7)
        have M67 := Lib.hid ((M6.out.below hb7 (Nat.le_refl _)).more hb7.size)
        have M7 := Lib.hid m7
        clear hb7 m7
        go_wp2_with fail
        refine (same_eq _ _ _ _ W7 M67.out M7.out (Nat.le_refl _)).mono ?_
        rintro e W8 ⟨rfl, hb8⟩
        have HB8 := Lib.hid (Below.link' HB7.out hb8)
        clear hb8
        go_wp2
        go_ret
        exact ⟨rfl, HB8.out⟩
end Go.Proofs.Ytgepgbpjdjbelaa
