/-
  WALK of Alloc, over words, notes and lists.
-/
import Derived.Test.YtmgpimibnogcaaaW5
import Derived.Lib.SliceRun
import Derived.BigFrame
set_option linter.unusedVariables false
set_option linter.unusedSimpArgs false
namespace Go.Proofs.Ytmgpimibnogcaaa
open Go.RowKit

theorem zero3 (w : World) : (zeroValue 3).run Try.prog w = .ok (.int .i64 0) w := by kernel_rfl
theorem fillN_front (v : Int) : ∀ (k : Nat) (ws : List Int) (o : Nat), fillN v ws o (k + 1) = fillN v (ws.set o v) (o + 1) k
  | 0, ws, o => rfl
  | k + 1, ws, o => by
    rw [fillN, fillN_front v k ws o]
    show _ = (fillN v (ws.set o v) (o + 1) k).set (o + 1 + k) v
    rw [show o + (k + 1) = o + 1 + k by omega]
theorem AB.fill {q p b : Nat} {bs : List Bk} {fr : List Nat} : ∀ (m : Nat) (ws : List Int) (o : Nat) (w : World), AB q p b ws bs fr w → AB q p b (fillN 0 ws o m) bs fr (w.setCells p o (List.replicate m (.int .i64 0)))
  | 0, ws, o, w, h => h
  | m + 1, ws, o, w, h => by
    rw [fillN_front]
    exact AB.fill m _ (o + 1) _ (h.set_word o 0)
theorem upd_cells {S : List Nat} {p : Nat} (hp : p ∈ S) : ∀ (vs : List Value) (o : Nat) (a w : World), Upd S a w → Upd S a (w.setCells p o vs)
  | [], _, _, _, h => h
  | v :: r, o, a, w, h => upd_cells hp r (o + 1) a _ (h.trans (Upd.set hp))
set_option maxRecDepth 1000000 in
set_option maxHeartbeats 1600000 in
theorem isBody_any (n : Int) (w : World) : Calls Try.prog 37 #[.int .i64 n] w fun e w' => e = .returned (.bool (decide (1 ≤ n) && decide (n ≤ 1048576))) ∧ w' = w := by
  by_cases h1 : 1 ≤ n
  · by_cases h2 : n ≤ 1048576
    · rw [decide_eq_true h1, decide_eq_true h2]
      go_enter Try.func37, Try.ntmps37
      go_wp2
      go_ret
      exact ⟨rfl, rfl⟩
    · rw [decide_eq_true h1, decide_eq_false h2]
      have h3 : 1048576 < n := by omega
      clear h2
      go_enter Try.func37, Try.ntmps37
      go_wp2
      go_ret
      exact ⟨by show Ending.returned (.bool (decide (n ≤ 1048576))) = _; rw [decide_eq_false (by omega)]; rfl, rfl⟩
  · rw [decide_eq_false h1]
    have h3 : n < 1 := by omega
    clear h1
    go_enter Try.func37, Try.ntmps37
    go_wp2
    go_ret
    exact ⟨rfl, rfl⟩
/-- No free block begins within another one; each ends ahead of the end. -/
def Sep (ws : List Int) (P : Nat → Prop) : Prop := ∀ a, P a → 0 < a ∧ 2 ≤ szW ws a ∧ a + szW ws a ≤ ws.length ∧ ∀ j, 0 < j → j < szW ws a → ¬ P (a + j)
/-- The words, the notes and the lists behind an Alloc that takes the block r. -/
def takeS (ws : List Int) (n r : Nat) : Nat := if n + 3 ≤ szW ws r then n + 1 else szW ws r
def takeW (ws : List Int) (n r : Nat) : List Int :=
  fillN 0 ((if n + 3 ≤ szW ws r then ws.set (r + (n + 1)) (2 * ((szW ws r - 1 - n : Nat) : Int)) else ws).set r (2 * (takeS ws n r : Int) + 1)) (r + 1) (takeS ws n r - 1)
def takeA (ws : List Int) (ah : List Nat) (n r : Nat) : List Nat :=
  ahAt (if n + 3 ≤ szW ws r then ahAt ah ws.length (r + (n + 1) + (szW ws r - 1 - n)) (szW ws r - 1 - n) else ah) ws.length (r + takeS ws n r) (takeS ws n r)
def takeP (ws : List Int) (P : Nat → Prop) (n r x : Nat) : Prop := if n + 3 ≤ szW ws r then (P x ∧ x ≠ r) ∨ x = r + (n + 1) else P x ∧ x ≠ r
theorem Mem.drewN {q p b : Nat} {ws : List Int} {ah : List Nat} {P : Nat → Prop} {w : World} (h : Mem q p b ws ah P w) (n : Nat) : Mem q p b ws ah P (w.drewN n) := by
  obtain ⟨bs, fr, h1, h2, h3, h4⟩ := h
  exact ⟨bs, fr, h1.drewN n, h2, h3, h4⟩
theorem size_mem {q p b : Nat} {ws : List Int} {ah : List Nat} {P : Nat → Prop} {w : World} (h : Mem q p b ws ah P w) (a : Nat) (v : Int) (hv : ws[a]? = some v) (h0 : 0 ≤ v) (h1 : v ≤ 2097152) :
    Calls Try.prog 40 #[.pointer (some ⟨q, 0, none⟩), .int .i64 (a : Int)] w fun e w' => e = .returned (.int .i64 (szW ws a : Int)) ∧ w' = w := by
  obtain ⟨bs, fr, hab, _⟩ := h
  exact size_any hab a v hv h0 h1
theorem szW_set {ws : List Int} {a z : Nat} (u : Int) (ha : a < ws.length) (hu : 0 ≤ u ∧ u ≤ 1) : szW (ws.set a (2 * (z : Int) + u)) a = z := by
  unfold szW
  rw [List.getElem?_set_self ha]
  simp only [Option.getD_some]
  omega
theorem body_mem {q p b : Nat} {ws : List Int} {ah : List Nat} {P : Nat → Prop} {w : World} (h : Mem q p b ws ah P w) (a : Nat) (v : Int) (hv : ws[a]? = some v) (hv0 : 4 ≤ v) (hv1 : v < 2097152) (hl : a + szW ws a ≤ ws.length) :
    Calls Try.prog 42 #[.pointer (some ⟨q, 0, none⟩), .int .i64 (a : Int)] w fun e w' => e = .returned (.slice (some ⟨p, a + 1, none⟩) (szW ws a - 1) (ws.length - (a + 1))) ∧ ∃ n, w' = w.drewN n := by
  obtain ⟨bs, fr, hab, _⟩ := h
  exact body_any hab a v hv hv0 hv1 hl
theorem Mem.cells {q p b : Nat} {ws : List Int} {ah : List Nat} {P : Nat → Prop} {w : World} (h : Mem q p b ws ah P w) (o m : Nat) (ho : o + m ≤ ws.length) : (∀ j, j < m → (w.cell? ⟨p, o + j, none⟩).isSome = true) ∧ ∀ j, j < m → w.frozen? ⟨p, o + j, none⟩ = false := by
  obtain ⟨bs, fr, hab, _⟩ := h
  refine ⟨fun j hj => ?_, fun j _ => (hab.frozen (o + j)).2.1⟩
  rw [hab.word (List.getElem?_eq_getElem (show o + j < ws.length by omega))]
  rfl
theorem Mem.fill {q p b : Nat} {ws : List Int} {ah : List Nat} {P : Nat → Prop} {w : World} (h : Mem q p b ws ah P w) (o m : Nat) (hp : ∀ x, P x → x < o ∨ o + m ≤ x) : Mem q p b (fillN 0 ws o m) ah P (w.setCells p o (List.replicate m (.int .i64 0))) := by
  obtain ⟨bs, fr, h1, h2, h3, h4⟩ := h
  have hw : ∀ x, P x → (fillN 0 ws o m)[x]? = ws[x]? := fun x hx => fillN_out 0 ws o m x (hp x hx)
  exact ⟨bs, fr, AB.fill m ws o w h1, h2, h3.words hw, fun x hx => by rw [hw x hx]; exact h4 x hx⟩
theorem Mem.n {q p b : Nat} {ws : List Int} {ah : List Nat} {P : Nat → Prop} {w : World} (h : Mem q p b ws ah P w) : 16 ≤ ws.length ∧ ws.length ≤ 1048576 := by
  obtain ⟨bs, fr, h1, _⟩ := h
  exact ⟨h1.n1, h1.n2⟩
theorem Mem.words {q p b : Nat} {ws : List Int} {ah : List Nat} {P : Nat → Prop} {w w' : World} {ws' : List Int} (h : ∃ bs fr, AB q p b ws' bs fr w' ∧ bs.map Bk.ah = ah ∧ FL ws bs fr P) (hw : ∀ a, P a → ws'[a]? = ws[a]?) (hh : ∀ a, P a → ∃ v, ws[a]? = some v ∧ 0 ≤ v ∧ v < 2097152) : Mem q p b ws' ah P w' := by
  obtain ⟨bs, fr, h1, h2, h3⟩ := h
  exact ⟨bs, fr, h1, h2, h3.words hw, fun x hx => by rw [hw x hx]; exact hh x hx⟩
set_option maxRecDepth 1000000 in
set_option maxHeartbeats 6400000 in
/-- What stands behind the release in Alloc: mark, body, clear. -/
theorem alloc_any (q p b : Nat) (ws : List Int) (ah : List Nat) (P : Nat → Prop) (w : World) (h : Mem q p b ws ah P w) (hsep : Sep ws P) (n : Int) :
    Calls Try.prog 17 #[.pointer (some ⟨q, 0, none⟩), .int .i64 n] w fun e w' =>
      (¬ (1 ≤ n ∧ n ≤ 1048576) ∧ e = .returned (.tuple #[.int .i64 0, .int .i64 1]) ∧ w' = w) ∨
      ((1 ≤ n ∧ n ≤ 1048576) ∧ ∃ r : Nat, Best ws P (n.toNat + 1) r ∧
        ((r = 0 ∧ e = .returned (.tuple #[.int .i64 0, .int .i64 23]) ∧ ∃ k, w' = w.drewN k) ∨
        (r ≠ 0 ∧ e = .returned (.tuple #[.int .i64 (r : Int), .int .i64 0]) ∧ Mem q p b (takeW ws n.toNat r) (takeA ws ah n.toNat r) (takeP ws P n.toNat r) w' ∧ Upd [q, p, b] w w'))) := by
  have HIS := Lib.hid (fun W => isBody_any n W)
  by_cases hn : 1 ≤ n ∧ n ≤ 1048576
  · rw [decide_eq_true hn.1, decide_eq_true hn.2] at HIS
    simp only [Bool.and_self] at HIS
    obtain ⟨m, rfl⟩ : ∃ m : Nat, n = m := ⟨n.toNat, by omega⟩
    rw [Int.toNat_natCast]
    have hm : 1 ≤ m ∧ m ≤ 1048576 := by omega
    have HB := Lib.hid (fun W (h : Mem q p b ws ah P W) => best_any q p b ws ah P W h (m + 1) (by omega))
    have HM := Lib.hid h
    have HSEP := Lib.hid hsep
    have HN := Lib.hid hn
    clear h hsep hn
    go_enter Try.func17, Try.ntmps17
    go_wp2_with fail
    refine (HIS.out _).mono ?_
    rintro e w' ⟨rfl, rfl⟩
    have HB1 := HB.out _ HM.out
    rw [show (((m + 1 : Nat)) : Int) = 1 + (m : Int) by omega] at HB1
    have HB2 := Lib.hid HB1
    clear HB1
    go_wp2_with fail
    refine (HB2.out).mono ?_
    rintro e w1 ⟨r, rfl, hb, k, hk⟩
    have HBE := Lib.hid hb
    have HK := Lib.hid hk
    clear hb hk
    by_cases hr : r = 0
    · subst hr
      go_wp2
      go_ret2
      exact .inr ⟨HN.out, 0, HBE.out, .inl ⟨rfl, rfl, k, HK.out⟩⟩
    · have hrz : ((r : Int) == 0) = false := by rw [beq_eq_false_iff_ne]; omega
      obtain ⟨hPr, hr0, hrs, hmin⟩ : P r ∧ 0 < r ∧ m + 1 ≤ szW ws r ∧ ∀ a, P a → m + 1 ≤ szW ws a → keyW ws r ≤ keyW ws a := by
        rcases HBE.out with ⟨h, _⟩ | h
        · exact absurd h hr
        · exact h
      clear hmin
      obtain ⟨_, hs2, hse, hsj⟩ := HSEP.out r hPr
      obtain ⟨_, _, _, _, _, hhd⟩ := id HM.out
      obtain ⟨v, hv, hv0, hv1⟩ := hhd r hPr
      have hsv := szW_of hv hv0
      have hnn := HM.out.n
      have hrl : r < ws.length := by omega
      have HP := Lib.hid hPr
      have M1 := Lib.hid (show Mem q p b ws ah P w1 by rw [HK.out]; exact HM.out.drewN k)
      have U1 := Lib.hid (show Upd [q, p, b] w' w1 by rw [HK.out]; exact (Upd.refl _ _).drewN k)
      have HRE := Lib.hid (remove_any q p b ws ah P w1 M1.out r hPr)
      have HSZ := Lib.hid (fun W (h : Mem q p b ws ah (fun x => P x ∧ x ≠ r) W) => size_mem h r v hv hv0 (by omega))
      have HSJ := Lib.hid hsj
      obtain ⟨S, hS⟩ : ∃ S, szW ws r = S := ⟨_, rfl⟩
      have HS := Lib.hid hS
      rw [hS] at hs2 hse hrs hsv HSZ HSJ
      clear hPr hsj hhd hv hS
      go_wp2_with fail
      refine (HRE.out).mono ?_
      rintro e w2 ⟨rfl, hm2, hu2⟩
      have M2 := Lib.hid hm2
      have U2 := Lib.hid (U1.out.trans (hu2.mono (by simp)))
      clear hm2 hu2
      go_wp2_with fail
      refine (HSZ.out _ M2.out).mono ?_
      rintro e w3 ⟨rfl, rfl⟩
      by_cases hs3 : m + 3 ≤ S
      · have hi3 : (2 : Int) ≤ (S : Int) - 1 - (m : Int) := by omega
        obtain ⟨R, hR⟩ : ∃ R : Nat, R = S - 1 - m := ⟨_, rfl⟩
        obtain ⟨Z, hZ⟩ : ∃ Z : Nat, Z = m + 1 := ⟨_, rfl⟩
        obtain ⟨Y, hY⟩ : ∃ Y : Nat, Y = r + (m + 1) := ⟨_, rfl⟩
        have e1 : (S : Int) - 1 - (m : Int) = (R : Int) := by omega
        have e2 : (S : Int) - (R : Int) = (Z : Int) := by omega
        have e3 : (r : Int) + (Z : Int) = (Y : Int) := by omega
        have hRb : 2 ≤ R ∧ R < 1048576 := by omega
        have hi4 : (2 : Int) ≤ (R : Int) := by omega
        have hi5 : (Y : Int) ≤ 1048576 := by omega
        have hi6 : (R : Int) < 1048576 := by omega
        have hi7 : (Z : Int) < 1048576 := by omega
        have hZb : 2 ≤ Z ∧ Z < 1048575 ∧ r + Z ≤ ws.length := by omega
        have hYb : r < Y ∧ Y < ws.length ∧ Y = r + Z := by omega
        have hYP : ¬ (P Y ∧ Y ≠ r) := fun h => by
          have := HSJ.out (m + 1) (by omega) (by omega)
          rw [← hY] at this
          exact this h.1
        have HRL := Lib.hid (release_any q p b ws ah (fun x => P x ∧ x ≠ r) _ M2.out Y R hYP (by omega) (by omega) (by omega))
        have hTW : takeW ws m r = fillN 0 ((ws.set Y (2 * (R : Int))).set r (2 * (Z : Int) + ((1 : Nat) : Int))) (r + 1) (Z - 1) := by
          unfold takeW takeS
          rw [HS.out, if_pos hs3, if_pos hs3, ← hR, ← hY, ← hZ]
          rfl
        have hTA : takeA ws ah m r = ahAt (ahAt ah ws.length (Y + R) R) ws.length (r + Z) Z := by
          unfold takeA takeS
          rw [HS.out, if_pos hs3, if_pos hs3, ← hR, ← hY, ← hZ, show r + Z = Y by omega]
        have hTP : takeP ws P m r = fun x => (P x ∧ x ≠ r) ∨ x = Y := by
          funext x
          unfold takeP
          rw [HS.out, if_pos hs3, ← hY]
        have HTW := Lib.hid hTW
        have HTA := Lib.hid hTA
        have HTP := Lib.hid hTP
        have HNP := Lib.hid (show ¬ ((P r ∧ r ≠ r) ∨ r = Y) from fun h => by rcases h with h | h; exact h.2 rfl; omega)
        have HOUT := Lib.hid (show ∀ x, (P x ∧ x ≠ r) ∨ x = Y → x < r + 1 ∨ r + 1 + (Z - 1) ≤ x from fun x hx => by
          rcases hx with hx | hx
          · rcases Nat.lt_or_ge x (r + 1) with h | h
            · exact .inl h
            · rcases Nat.lt_or_ge x (r + S) with h2 | h2
              · exfalso
                have := HSJ.out (x - r) (by omega) (by omega)
                rw [show r + (x - r) = x by omega] at this
                exact this hx.1
              · exact .inr (by omega)
          · exact .inr (by omega))
        have hhr := HRL.out
        rw [← e3] at hhr
        have HRL := Lib.hid hhr
        clear hhr e3
        have HL1 := Lib.hid (show (ws.set Y (2 * (R : Int))).length = ws.length from List.length_set)
        clear hR hZ hY hTW hTA hTP hYP hs3 hsv
        go_wp2_with fail
        refine (HRL.out).mono ?_
        rintro e w4 ⟨rfl, hm4, hu4⟩
        have M3 := Lib.hid hm4
        have U3 := Lib.hid (U2.out.trans (hu4.mono (by simp)))
        clear hm4 hu4
        have HMK := Lib.hid (mark_any q p b (ws.set Y (2 * (R : Int))) (ahAt ah ws.length (Y + R) R) (fun x => (P x ∧ x ≠ r) ∨ x = Y) _ M3.out r Z 1 HNP.out (by rw [HL1.out]; omega) (by omega) (by omega))
        go_wp2_with fail
        refine (HMK.out).mono ?_
        rintro e w5 ⟨rfl, hm5, hu5⟩
        have hws2 : r < (ws.set Y (2 * (R : Int))).length := by rw [HL1.out]; omega
        have HSS := Lib.hid (szW_set (ws := (ws.set Y (2 * (R : Int)))) (z := Z) ((1 : Nat) : Int) hws2 (by omega))
        have HVV := Lib.hid (show ((ws.set Y (2 * (R : Int))).set r (2 * (Z : Int) + ((1 : Nat) : Int)))[r]? = some (2 * (Z : Int) + ((1 : Nat) : Int)) from List.getElem?_set_self hws2)
        have HLL := Lib.hid (show ((ws.set Y (2 * (R : Int))).set r (2 * (Z : Int) + ((1 : Nat) : Int))).length = ws.length by rw [List.length_set]; exact HL1.out)
        have M5 := Lib.hid hm5
        have U5 := Lib.hid (U3.out.trans (hu5.mono (by simp)))
        have HBO := Lib.hid (body_mem hm5 r _ HVV.out (by omega) (by omega) (by rw [HSS.out, HLL.out]; omega))
        rw [HSS.out, HLL.out] at HBO
        clear hm5 hu5 HMK
        go_wp2_with fail
        refine (HBO.out).mono ?_
        rintro e w6 ⟨rfl, k6, hk6⟩
        have M6 := Lib.hid (show Mem q p b _ _ _ w6 by rw [hk6]; exact M5.out.drewN k6)
        have U6 := Lib.hid (show Upd [q, p, b] w' w6 by rw [hk6]; exact U5.out.drewN k6)
        have HCC := M6.out.cells (r + 1) (Z - 1) (by rw [HLL.out]; omega)
        have hcl : ∀ ty, (Builtin.clear_ #[32] ty #[.slice (some ⟨p, r + 1, none⟩) (Z - 1) (ws.length - (r + 1))]).run Try.prog w6 = .ok (.tuple #[]) (w6.setCells p (r + 1) (List.replicate (Z - 1) (.int .i64 0))) :=
          fun ty => Lib.run_clear_slice w6 32 3 ty (.int .i64 0) Try.underlying32 zero3 rfl rfl p (r + 1) (Z - 1) _ (by omega) HCC.1 HCC.2
        clear HCC hk6 HBO
        have M7 := Lib.hid (M6.out.fill (r + 1) (Z - 1) (fun x hx => HOUT.out x hx))
        have U7 := Lib.hid (upd_cells (S := [q, p, b]) (p := p) (by simp) (List.replicate (Z - 1) (.int .i64 0)) (r + 1) w' w6 U6.out)
        go_wp2_with (simp only [hcl])
        go_ret2
        exact .inr ⟨HN.out, r, HBE.out, .inr ⟨hr, rfl, by rw [HTW.out, HTA.out, HTP.out]; rw [show ahAt (ahAt ah ws.length (Y + R) R) ws.length (r + Z) Z = ahAt (ahAt ah ws.length (Y + R) R) (ws.set Y (2 * (R : Int))).length (r + Z) Z by rw [HL1.out]]; exact M7.out, U7.out⟩⟩
      · have hi3 : (S : Int) - 1 - (m : Int) < 2 := by omega
        have hTW : takeW ws m r = fillN 0 (ws.set r (2 * (S : Int) + ((1 : Nat) : Int))) (r + 1) (S - 1) := by
          unfold takeW takeS
          rw [HS.out, if_neg hs3, if_neg hs3]
          rfl
        have hTA : takeA ws ah m r = ahAt ah ws.length (r + S) S := by
          unfold takeA takeS
          rw [HS.out, if_neg hs3, if_neg hs3]
        have hTP : takeP ws P m r = fun x => P x ∧ x ≠ r := by
          funext x
          unfold takeP
          rw [HS.out, if_neg hs3]
        have HTW := Lib.hid hTW
        have HTA := Lib.hid hTA
        have HTP := Lib.hid hTP
        have hSb : S < 1048576 := by omega
        clear hTW hTA hTP hs3 hsv
        have HMK := Lib.hid (mark_any q p b ws ah (fun x => P x ∧ x ≠ r) _ M2.out r S 1 (fun h => h.2 rfl) (by omega) (by omega) (by omega))
        go_wp2_with fail
        refine (HMK.out).mono ?_
        rintro e w5 ⟨rfl, hm5, hu5⟩
        have hws2 : r < ws.length := by omega
        have HSS := Lib.hid (szW_set (ws := ws) (z := S) ((1 : Nat) : Int) hws2 (by omega))
        have HVV := Lib.hid (show (ws.set r (2 * (S : Int) + ((1 : Nat) : Int)))[r]? = some (2 * (S : Int) + ((1 : Nat) : Int)) from List.getElem?_set_self hws2)
        have HLL := Lib.hid (show (ws.set r (2 * (S : Int) + ((1 : Nat) : Int))).length = ws.length by rw [List.length_set])
        have M5 := Lib.hid hm5
        have U5 := Lib.hid (U2.out.trans (hu5.mono (by simp)))
        have HBO := Lib.hid (body_mem hm5 r _ HVV.out (by omega) (by omega) (by rw [HSS.out, HLL.out]; omega))
        rw [HSS.out, HLL.out] at HBO
        clear hm5 hu5 HMK
        go_wp2_with fail
        refine (HBO.out).mono ?_
        rintro e w6 ⟨rfl, k6, hk6⟩
        have M6 := Lib.hid (show Mem q p b _ _ _ w6 by rw [hk6]; exact M5.out.drewN k6)
        have U6 := Lib.hid (show Upd [q, p, b] w' w6 by rw [hk6]; exact U5.out.drewN k6)
        have HCC := M6.out.cells (r + 1) (S - 1) (by rw [HLL.out]; omega)
        have hcl : ∀ ty, (Builtin.clear_ #[32] ty #[.slice (some ⟨p, r + 1, none⟩) (S - 1) (ws.length - (r + 1))]).run Try.prog w6 = .ok (.tuple #[]) (w6.setCells p (r + 1) (List.replicate (S - 1) (.int .i64 0))) :=
          fun ty => Lib.run_clear_slice w6 32 3 ty (.int .i64 0) Try.underlying32 zero3 rfl rfl p (r + 1) (S - 1) _ (by omega) HCC.1 HCC.2
        clear HCC hk6 HBO
        have M7 := Lib.hid (M6.out.fill (r + 1) (S - 1) (fun x hx => by
          rcases Nat.lt_or_ge x (r + 1) with h | h
          · exact .inl h
          · rcases Nat.lt_or_ge x (r + S) with h2 | h2
            · exfalso
              have := HSJ.out (x - r) (by omega) (by omega)
              rw [show r + (x - r) = x by omega] at this
              exact this hx.1
            · exact .inr (by omega)))
        have U7 := Lib.hid (upd_cells (S := [q, p, b]) (p := p) (by simp) (List.replicate (S - 1) (.int .i64 0)) (r + 1) w' w6 U6.out)
        go_wp2_with (simp only [hcl])
        go_ret2
        exact .inr ⟨HN.out, r, HBE.out, .inr ⟨hr, rfl, by rw [HTW.out, HTA.out, HTP.out]; exact M7.out, U7.out⟩⟩
  · have hd : (decide (1 ≤ n) && decide (n ≤ 1048576)) = false := by
      rw [Bool.and_eq_false_iff, decide_eq_false_iff_not, decide_eq_false_iff_not]
      omega
    rw [hd] at HIS
    have HN := Lib.hid hn
    clear hn hd h hsep
    go_enter Try.func17, Try.ntmps17
    go_wp2_with fail
    refine (HIS.out _).mono ?_
    rintro e w' ⟨rfl, rfl⟩
    go_wp2
    go_ret2
    exact .inl ⟨HN.out, rfl, rfl⟩
end Go.Proofs.Ytmgpimibnogcaaa
