/-
  WALK of Free, over words, notes and lists.
-/
import Derived.Test.YtmgpimibnogcaaaW6
set_option linter.unusedVariables false
set_option linter.unusedSimpArgs false
namespace Go.Proofs.Ytmgpimibnogcaaa
open Go.RowKit

theorem Mem.poison {q p b : Nat} {ws : List Int} {ah : List Nat} {P : Nat → Prop} {w : World} (h : Mem q p b ws ah P w) (o m cap : Nat) (ho : o + m ≤ ws.length) (hp : ∀ x, P x → x < o ∨ o + m ≤ x) :
    Calls Try.prog 27 #[.slice (some ⟨p, o, none⟩) m cap] w fun e w' => e = .returned (.tuple #[]) ∧ Mem q p b (fillN PZ ws o m) ah P w' ∧ Upd [p] w w' := by
  obtain ⟨bs, fr, h1, h2, h3, h4⟩ := h
  have hw : ∀ x, P x → (fillN PZ ws o m)[x]? = ws[x]? := fun x hx => fillN_out PZ ws o m x (hp x hx)
  refine (poison_any h1 o m cap ho).mono ?_
  rintro e w' ⟨rfl, hab, hu⟩
  exact ⟨rfl, ⟨bs, fr, hab, h2, h3.words hw, fun x hx => by rw [hw x hx]; exact h4 x hx⟩, hu⟩
/-- The cells of a note. -/
theorem Mem.note {q p b : Nat} {ws : List Int} {ah : List Nat} {P : Nat → Prop} {w : World} (h : Mem q p b ws ah P w) {a k : Nat} (hk : ah[a]? = some k) : w.cell? ⟨q, 1, none⟩ = some (.slice (some ⟨b, 0, none⟩) ws.length ws.length) ∧ w.cell? ⟨b, a * 3, none⟩ = some (.int .i64 (k : Int)) ∧ a < ws.length ∧ q < w.heap.size ∧ b < w.heap.size := by
  obtain ⟨bs, fr, h1, h2, _⟩ := h
  rw [← h2, List.getElem?_map] at hk
  obtain ⟨x, hx, rfl⟩ := Option.map_eq_some_iff.1 hk
  obtain ⟨l1, l2, l3⟩ := h1.lt
  have := (List.getElem?_eq_some_iff.1 hx).1
  rw [h1.bl] at this
  exact ⟨h1.box1, (h1.bk3 hx).1, this, l1, l3⟩
set_option maxRecDepth 1000000 in
set_option maxHeartbeats 3200000 in
theorem free_none (q p b : Nat) (ws : List Int) (ah : List Nat) (P : Nat → Prop) (w : World) (h : Mem q p b ws ah P w) (hg : Good ws ah) (at_ : Int) (hi : isW ws ah 1 at_ = false) :
    Calls Try.prog 19 #[.pointer (some ⟨q, 0, none⟩), .int .i64 at_] w fun e w' => e = .returned (.int .i64 24) ∧ w' = w := by
  have HI := Lib.hid (is_any q p b ws ah P w h hg 1 at_)
  rw [hi] at HI
  clear h hg hi
  go_enter Try.func19, Try.ntmps19
  go_wp2_with fail
  refine (HI.out).mono ?_
  rintro e w' ⟨rfl, rfl⟩
  go_wp2
  go_ret
  exact ⟨rfl, rfl⟩
/-- What Free leaves of the block behind: the words, the notes, the lists, and where the free block ends. -/
def Behind (ws1 : List Int) (ah : List Nat) (P : Nat → Prop) (e0 : Nat) (ws2 : List Int) (ah2 : List Nat) (P2 : Nat → Prop) (E : Nat) : Prop :=
  (isW ws1 ah 0 (e0 : Int) = false ∧ ws2 = ws1 ∧ ah2 = ah ∧ P2 = P ∧ E = e0) ∨
  (isW ws1 ah 0 (e0 : Int) = true ∧ P e0 ∧ e0 < ws1.length ∧ ws2 = ws1.set e0 PZ ∧ ah2 = ah.set e0 0 ∧ (P2 = fun x => P x ∧ x ≠ e0) ∧ E = e0 + szW ws1 e0)
/-- And of the block ahead: it begins at A. -/
def Ahead (ws2 : List Int) (ah2 : List Nat) (P2 : Nat → Prop) (a k : Nat) (ws3 : List Int) (ah3 : List Nat) (P3 : Nat → Prop) (A : Nat) : Prop :=
  (isW ws2 ah2 0 ((a : Int) - (k : Int)) = false ∧ ws3 = ws2 ∧ ah3 = ah2 ∧ P3 = P2 ∧ A = a) ∨
  (isW ws2 ah2 0 ((a : Int) - (k : Int)) = true ∧ (A : Int) = (a : Int) - (k : Int) ∧ P2 A ∧ ws3 = ws2.set a PZ ∧ ah3 = ah2.set a 0 ∧ P3 = fun x => P2 x ∧ x ≠ A)
set_option maxRecDepth 1000000 in
set_option maxHeartbeats 6400000 in
theorem free_used (q p b : Nat) (ws : List Int) (ah : List Nat) (P : Nat → Prop) (w : World) (h : Mem q p b ws ah P w) (hg : Good ws ah) (a Z k E A : Nat) (v : Int) (hi : isW ws ah 1 (a : Int) = true) (hv : ws[a]? = some v) (hv0 : 4 ≤ v) (hv1 : v < 2097152) (hZ : szW ws a = Z) (hl : a + Z ≤ ws.length)
    (hna : ¬ P a) (hin : ∀ j, 0 < j → j < Z → ¬ P (a + j)) (hg1 : Good (fillN PZ ws (a + 1) (Z - 1)) ah) (ws2 ws3 : List Int) (ah2 ah3 : List Nat) (P2 P3 : Nat → Prop)
    (hB : Behind (fillN PZ ws (a + 1) (Z - 1)) ah P (a + Z) ws2 ah2 P2 E) (hg2 : Good ws2 ah2) (hk : ah2[a]? = some k) (hkb : k ≤ 1048576) (hA : Ahead ws2 ah2 P2 a k ws3 ah3 P3 A) (hE : 0 < A ∧ A ≤ a ∧ E ≤ ws.length) (D : Nat) (hD : E = A + D) :
    Calls Try.prog 19 #[.pointer (some ⟨q, 0, none⟩), .int .i64 (a : Int)] w fun e w' => e = .returned (.int .i64 0) ∧ Mem q p b (ws3.set A (2 * (D : Int))) (ahAt ah3 ws.length (A + D) D) (fun x => P3 x ∨ x = A) w' ∧ Upd [q, p, b] w w' := by
  obtain ⟨hn1, hn2⟩ := h.n
  have HI := Lib.hid (is_any q p b ws ah P w h hg 1 (a : Int))
  rw [hi] at HI
  have HBO := Lib.hid (body_mem h a v hv hv0 hv1 (by rw [hZ]; exact hl))
  rw [hZ] at HBO
  have hv1a : (fillN PZ ws (a + 1) (Z - 1))[a]? = some v := by rw [fillN_out PZ ws (a + 1) (Z - 1) a (.inl (by omega))]; exact hv
  have hZ1 : szW (fillN PZ ws (a + 1) (Z - 1)) a = Z := by rw [(keyW_congr (hv1a.trans hv.symm)).2]; exact hZ
  have hsv := szW_of hv (by omega)
  rw [hZ] at hsv
  have hZ2 : 2 ≤ Z ∧ Z < 1048576 := by omega
  have HPO := Lib.hid (fun W (h : Mem q p b ws ah P W) => h.poison (a + 1) (Z - 1) (ws.length - (a + 1)) (by omega) (fun x hx => by
    rcases Nat.lt_or_ge x (a + 1) with h | h
    · exact .inl h
    · rcases Nat.lt_or_ge x (a + Z) with h2 | h2
      · exfalso
        have := hin (x - a) (by omega) (by omega)
        rw [show a + (x - a) = x by omega] at this
        exact this hx
      · exact .inr (by omega)))
  have HL1 := Lib.hid (fillN_len PZ ws (a + 1) (Z - 1))
  generalize fillN PZ ws (a + 1) (Z - 1) = ws1 at *
  have HSZ := Lib.hid (fun W (h : Mem q p b ws1 ah P W) => size_mem h a v hv1a (by omega) (by omega))
  rw [hZ1] at HSZ
  have HIB := Lib.hid (fun W (h : Mem q p b ws1 ah P W) => is_any q p b ws1 ah P W h hg1 0 ((a + Z : Nat) : Int))
  obtain ⟨e0, he0⟩ : ∃ e0 : Nat, e0 = a + Z := ⟨_, rfl⟩
  have HE0 := Lib.hid (show (a : Int) + (Z : Int) = (e0 : Int) by omega)
  rw [← he0] at HIB hB
  have he1 : e0 ≤ ws.length := by omega
  have he2 : a < e0 := by omega
  clear he0
  have M0 := Lib.hid h
  have HNA := Lib.hid hna
  have HB := Lib.hid hB
  have HA := Lib.hid hA
  have HG2 := Lib.hid hg2
  have HK := Lib.hid hk
  have HE := Lib.hid hE
  have HDE := Lib.hid hD
  clear h hg hi hv hin hg1 hv1a hZ hZ1 hsv hna hB hA hg2 hk hE hD
  go_enter Try.func19, Try.ntmps19
  go_wp2_with fail
  refine (HI.out).mono ?_
  rintro e w' ⟨rfl, rfl⟩
  go_wp2_with fail
  refine (HBO.out).mono ?_
  rintro e w1 ⟨rfl, k1, hk1⟩
  have M1 := Lib.hid (show Mem q p b ws ah P w1 by rw [hk1]; exact M0.out.drewN k1)
  have U1 := Lib.hid (show Upd [q, p, b] w' w1 by rw [hk1]; exact (Upd.refl _ _).drewN k1)
  clear hk1
  have HPO1 := Lib.hid (HPO.out w1 M1.out)
  go_wp2_with fail
  refine (HPO1.out).mono ?_
  rintro e w2 ⟨rfl, hm, hu⟩
  have M2 := Lib.hid hm
  have U2 := Lib.hid (U1.out.trans (hu.mono (by simp)))
  clear hm hu
  go_wp2_with fail
  refine (HSZ.out _ M2.out).mono ?_
  rintro e w3 ⟨rfl, rfl⟩
  have HIB1 := Lib.hid (HIB.out _ M2.out)
  rcases HB.out with ⟨b1, rfl, rfl, rfl, b5⟩ | ⟨b1, b2, b3, rfl, rfl, rfl, b5⟩
  · rw [b1] at HIB1
    subst b5
    have hD := HDE.out
    have hEE := HE.out
    have HD := Lib.hid (show (E : Int) - (A : Int) = (D : Int) by omega)
    have hDb : D < 1048576 := by omega
    have HNP := HNA
    have HNP2 := HNA
    clear hD b1
    go_wp2_with fail
    rw [HE0.out]
    refine (HIB1.out).mono ?_
    rintro e w' ⟨rfl, rfl⟩
    obtain ⟨c1, c2, c3, l1, l2⟩ := M2.out.note HK.out
    have hani := Int.ofNat_lt.2 c3
    have hkb2 : (k : Int) ≤ 1048576 := by omega
    have HIA := Lib.hid (is_any q p b _ _ _ _ M2.out HG2.out 0 ((a : Int) - (k : Int)))
    rcases HA.out with ⟨a1, rfl, rfl, rfl, a5⟩ | ⟨a1, a2, a3, rfl, rfl, rfl⟩
    · rw [a1] at HIA
      subst a5
      have HRE := Lib.hid (release_any q p b _ _ _ _ M2.out A D HNP.out (by omega) c3 (by omega))
      clear a1
      go_wp2_with fail
      refine (HIA.out).mono ?_
      rintro e w' ⟨rfl, rfl⟩
      go_wp2_with fail
      rw [HD.out]
      refine (HRE.out).mono ?_
      rintro e w9 ⟨rfl, hm, hu⟩
      have M9 := Lib.hid hm
      have U9 := Lib.hid (U2.out.trans hu)
      clear hm hu
      go_wp2
      go_ret
      refine ⟨rfl, ?_, U9.out⟩
      have := M9.out
      rw [HL1.out] at this
      exact this
    · rw [a1, ← a2] at HIA
      have HRM := Lib.hid (remove_any q p b _ _ _ _ M2.out A a3)
      have HA2 := Lib.hid a2
      clear a1 a2
      go_wp2_with fail
      rw [← HA2.out]
      refine (HIA.out).mono ?_
      rintro e w' ⟨rfl, rfl⟩
      go_wp2_with fail
      refine (HRM.out).mono ?_
      rintro e w7 ⟨rfl, hm, hu⟩
      have M7 := Lib.hid hm
      have U7 := Lib.hid (U2.out.trans (hu.mono (by simp)))
      clear hm hu
      have HFO := Lib.hid (forget_any q p b _ _ _ _ M7.out a (fun h => HNP2.out h.1) c3)
      go_wp2_with fail
      refine (HFO.out).mono ?_
      rintro e w8 ⟨rfl, hm, hu⟩
      have M8 := Lib.hid hm
      have U8 := Lib.hid (U7.out.trans (hu.mono (by simp)))
      clear hm hu
      have HRE := Lib.hid (release_any q p b _ _ _ _ M8.out A D (fun h => h.2 rfl) (by omega) (by rw [List.length_set]; omega) (by omega))
      go_wp2_with fail
      rw [HD.out]
      refine (HRE.out).mono ?_
      rintro e w9 ⟨rfl, hm, hu⟩
      have M9 := Lib.hid hm
      have U9 := Lib.hid (U8.out.trans hu)
      clear hm hu
      go_wp2
      go_ret
      refine ⟨rfl, ?_, U9.out⟩
      have := M9.out
      rw [List.length_set, HL1.out] at this
      exact this
  · rw [b1] at HIB1
    obtain ⟨vb, hvb, hvb0, hvb1⟩ : ∃ vb, ws1[e0]? = some vb ∧ 0 ≤ vb ∧ vb < 2097152 := by
      obtain ⟨_, _, _, _, _, hh⟩ := M2.out
      exact hh e0 b2
    have HSB := Lib.hid (fun W h => size_mem (q := q) (p := p) (b := b) (ws := ws1) (ah := ah) (P := P) (w := W) h e0 vb hvb hvb0 (by omega))
    obtain ⟨Zb, hZb⟩ : ∃ Zb, szW ws1 e0 = Zb := ⟨_, rfl⟩
    rw [hZb] at HSB b5
    have hD := HDE.out
    have hEE := HE.out
    have hZbb : Zb ≤ 1048576 := by omega
    have HE1 := Lib.hid (show (e0 : Int) + (Zb : Int) = (E : Int) by omega)
    have HD := Lib.hid (show (E : Int) - (A : Int) = (D : Int) by omega)
    have hDb : D < 1048576 := by omega
    have HRMB := Lib.hid (remove_any q p b _ _ _ _ M2.out e0 b2)
    have HNP := Lib.hid (show ¬ (P a ∧ a ≠ e0) from fun h => HNA.out h.1)
    have HNP2 := HNP
    clear hD b1 hvb hZb b5
    go_wp2_with fail
    rw [HE0.out]
    refine (HIB1.out).mono ?_
    rintro e w' ⟨rfl, rfl⟩
    go_wp2_with fail
    refine (HSB.out _ M2.out).mono ?_
    rintro e w' ⟨rfl, rfl⟩
    go_wp2_with fail
    rw [HE1.out]
    refine (HRMB.out).mono ?_
    rintro e w4 ⟨rfl, hm, hu⟩
    have M4 := Lib.hid hm
    have U4 := Lib.hid (U2.out.trans (hu.mono (by simp)))
    clear hm hu
    have HFB := Lib.hid (forget_any q p b _ _ _ _ M4.out e0 (fun h => h.2 rfl) b3)
    go_wp2_with fail
    refine (HFB.out).mono ?_
    rintro e w5 ⟨rfl, hm, hu⟩
    have M5 := Lib.hid hm
    have U5 := Lib.hid (U4.out.trans (hu.mono (by simp)))
    clear hm hu
    obtain ⟨c1, c2, c3, l1, l2⟩ := M5.out.note HK.out
    have hani := Int.ofNat_lt.2 c3
    have hkb2 : (k : Int) ≤ 1048576 := by omega
    have HIA := Lib.hid (is_any q p b _ _ _ _ M5.out HG2.out 0 ((a : Int) - (k : Int)))
    rcases HA.out with ⟨a1, rfl, rfl, rfl, a5⟩ | ⟨a1, a2, a3, rfl, rfl, rfl⟩
    · rw [a1] at HIA
      subst a5
      have HRE := Lib.hid (release_any q p b _ _ _ _ M5.out A D HNP.out (by omega) c3 (by omega))
      clear a1
      go_wp2_with fail
      refine (HIA.out).mono ?_
      rintro e w' ⟨rfl, rfl⟩
      go_wp2_with fail
      rw [HD.out]
      refine (HRE.out).mono ?_
      rintro e w9 ⟨rfl, hm, hu⟩
      have M9 := Lib.hid hm
      have U9 := Lib.hid (U5.out.trans hu)
      clear hm hu
      go_wp2
      go_ret
      refine ⟨rfl, ?_, U9.out⟩
      have := M9.out
      rw [List.length_set, HL1.out] at this
      exact this
    · rw [a1, ← a2] at HIA
      have HRM := Lib.hid (remove_any q p b _ _ _ _ M5.out A a3)
      have HA2 := Lib.hid a2
      clear a1 a2
      go_wp2_with fail
      rw [← HA2.out]
      refine (HIA.out).mono ?_
      rintro e w' ⟨rfl, rfl⟩
      go_wp2_with fail
      refine (HRM.out).mono ?_
      rintro e w7 ⟨rfl, hm, hu⟩
      have M7 := Lib.hid hm
      have U7 := Lib.hid (U5.out.trans (hu.mono (by simp)))
      clear hm hu
      have HFO := Lib.hid (forget_any q p b _ _ _ _ M7.out a (fun h => HNP2.out h.1) c3)
      go_wp2_with fail
      refine (HFO.out).mono ?_
      rintro e w8 ⟨rfl, hm, hu⟩
      have M8 := Lib.hid hm
      have U8 := Lib.hid (U7.out.trans (hu.mono (by simp)))
      clear hm hu
      have HRE := Lib.hid (release_any q p b _ _ _ _ M8.out A D (fun h => h.2 rfl) (by omega) (by rw [List.length_set]; omega) (by omega))
      go_wp2_with fail
      rw [HD.out]
      refine (HRE.out).mono ?_
      rintro e w9 ⟨rfl, hm, hu⟩
      have M9 := Lib.hid hm
      have U9 := Lib.hid (U8.out.trans hu)
      clear hm hu
      go_wp2
      go_ret
      refine ⟨rfl, ?_, U9.out⟩
      have := M9.out
      rw [List.length_set, List.length_set, HL1.out] at this
      exact this
end Go.Proofs.Ytmgpimibnogcaaa
