/-
  WALKS of the arena: mark, forget, release; the best free block.
-/
import Derived.Test.YtmgpimibnogcaaaW3
set_option linter.unusedVariables false
set_option linter.unusedSimpArgs false
namespace Go.Proofs.Ytmgpimibnogcaaa
open Go.RowKit

def ahAt (ah : List Nat) (n k s : Nat) : List Nat := if k < n then ah.set k s else ah
set_option maxRecDepth 1000000 in
set_option maxHeartbeats 6400000 in
theorem mark_any (q p b : Nat) (ws : List Int) (ah : List Nat) (P : Nat → Prop) (w : World) (h : Mem q p b ws ah P w) (a s st : Nat) (ha : ¬ P a) (han : a < ws.length) (hs : s ≤ 1048576) (hst : st ≤ 1) :
    Calls Try.prog 41 #[.pointer (some ⟨q, 0, none⟩), .int .i64 (a : Int), .int .i64 (s : Int), .int .i64 (st : Int)] w fun e w' => e = .returned (.tuple #[]) ∧
      Mem q p b (ws.set a (2 * (s : Int) + st)) (ahAt ah ws.length (a + s) s) P w' ∧ Upd [p, b] w w' := by
  obtain ⟨bs, fr, hab, hah, hfl, hh⟩ := h
  have hani : (a : Int) < (ws.length : Int) := by omega
  have hn2 := hab.n2
  obtain ⟨v, hv⟩ : ∃ v, ws[a]? = some v := ⟨_, List.getElem?_eq_getElem han⟩
  have hne : ∀ x, P x → (ws.set a (2 * (s : Int) + st))[x]? = ws[x]? := fun x hx => List.getElem?_set_ne (fun e => ha (by rw [e]; exact hx))
  have c0 := hab.box0
  have c1 := hab.word hv
  have hf := (hab.frozen a).2.1
  obtain ⟨l1, l2, l3⟩ := hab.lt
  have AB1 := Lib.hid (hab.set_word a (2 * (s : Int) + st))
  have U1 := Lib.hid (Upd.set (S := [p, b]) (b := p) (i := a) (w := w) (u := .int .i64 (2 * (s : Int) + st)) (by simp))
  have FL1 := Lib.hid (hfl.words hne)
  have HH1 := Lib.hid (show ∀ x, P x → ∃ u, (ws.set a (2 * (s : Int) + st))[x]? = some u ∧ 0 ≤ u ∧ u < 2097152 from fun x hx => by rw [hne x hx]; exact hh x hx)
  have HAH := Lib.hid hah
  have hqp : q ≠ p := hab.ne.1
  by_cases hk : a + s < ws.length
  · have hki : (a : Int) + s < (ws.length : Int) := by omega
    obtain ⟨x, hx⟩ : ∃ x, bs[a + s]? = some x := ⟨_, List.getElem?_eq_getElem (by rw [hab.bl]; exact hk)⟩
    have AB2 := Lib.hid (AB1.out.set_ah3 hx s)
    have FL2 := Lib.hid (FL1.out.ahead (v := s) hx)
    have HAH2 := Lib.hid (show (bs.set (a + s) ⟨s, x.lf, x.rt⟩).map Bk.ah = ahAt ah ws.length (a + s) s by unfold ahAt; rw [if_pos hk, List.map_set, hah])
    have c2 := AB1.out.box0
    have c3 := AB1.out.box1
    obtain ⟨k0, k1, k2⟩ := AB1.out.bk3 hx
    have hf2 := (AB1.out.frozen ((a + s) * 3)).2.2
    rw [List.length_set] at c2 c3
    obtain ⟨m1, m2, m3⟩ := AB1.out.lt
    clear hab hah hfl hh hv hx ha hne hk han
    generalize ws.length = n at *
    go_enter Try.func41, Try.ntmps41
    go_wp2
    go_end0
    exact ⟨rfl, ⟨_, fr, AB2.out, HAH2.out, FL2.out, HH1.out⟩, U1.out.trans (Upd.set (by simp))⟩
  · have hki : (ws.length : Int) ≤ (a : Int) + s := by omega
    have HAH2 := Lib.hid (show bs.map Bk.ah = ahAt ah ws.length (a + s) s by unfold ahAt; rw [if_neg hk, hah])
    have c2 := AB1.out.box0
    rw [List.length_set] at c2
    obtain ⟨m1, m2, m3⟩ := AB1.out.lt
    clear hab hah hfl hh hv ha hne hk han
    generalize ws.length = n at *
    go_enter Try.func41, Try.ntmps41
    go_wp2
    go_end0
    exact ⟨rfl, ⟨_, fr, AB1.out, HAH2.out, FL1.out, HH1.out⟩, U1.out⟩
/-- What words hold that are not used. -/
def PZ : Int := -6148914691236517206
set_option maxRecDepth 1000000 in
set_option maxHeartbeats 6400000 in
theorem forget_any (q p b : Nat) (ws : List Int) (ah : List Nat) (P : Nat → Prop) (w : World) (h : Mem q p b ws ah P w) (a : Nat) (ha : ¬ P a) (han : a < ws.length) :
    Calls Try.prog 44 #[.pointer (some ⟨q, 0, none⟩), .int .i64 (a : Int)] w fun e w' => e = .returned (.tuple #[]) ∧ Mem q p b (ws.set a PZ) (ah.set a 0) P w' ∧ Upd [p, b] w w' := by
  obtain ⟨bs, fr, hab, hah, hfl, hh⟩ := h
  have hani : (a : Int) < (ws.length : Int) := by omega
  have hn2 := hab.n2
  obtain ⟨v, hv⟩ : ∃ v, ws[a]? = some v := ⟨_, List.getElem?_eq_getElem han⟩
  have hbl : a < bs.length := by rw [hab.bl]; exact han
  obtain ⟨x, hx⟩ : ∃ x, bs[a]? = some x := ⟨_, List.getElem?_eq_getElem hbl⟩
  have hne : ∀ x, P x → (ws.set a PZ)[x]? = ws[x]? := fun x hx => List.getElem?_set_ne (fun e => ha (by rw [e]; exact hx))
  have c0 := hab.box0
  have c1 := hab.word hv
  have hf := (hab.frozen a).2.1
  obtain ⟨l1, l2, l3⟩ := hab.lt
  have hab1 := hab.set_word a PZ
  have c2 := hab1.box0
  have c3 := hab1.box1
  rw [List.length_set] at c2 c3
  obtain ⟨k0, k1, k2⟩ := hab1.bk3 hx
  have hf0 := (hab1.frozen (a * 3)).2.2
  have hf1 := (hab1.frozen (a * 3 + 1)).2.2
  have hf2 := (hab1.frozen (a * 3 + 2)).2.2
  obtain ⟨m1, m2, m3⟩ := hab1.lt
  have hx1 : (bs.set a ⟨0, x.lf, x.rt⟩)[a]? = some ⟨0, x.lf, x.rt⟩ := List.getElem?_set_self hbl
  have hab2 := hab1.set_ah3 hx 0
  have hx2 : ((bs.set a ⟨0, x.lf, x.rt⟩).set a ⟨0, 0, x.rt⟩)[a]? = some ⟨0, 0, x.rt⟩ := List.getElem?_set_self (by rw [List.length_set]; exact hbl)
  have hab3 := hab2.set_lf3 hx1 0
  have hab4 := hab3.set_rt3 hx2 0
  rw [List.set_set, List.set_set] at hab4
  have AB4 := Lib.hid hab4
  have FL4 := Lib.hid ((hfl.words hne).forget ha hbl)
  have HH1 := Lib.hid (show ∀ x, P x → ∃ u, (ws.set a PZ)[x]? = some u ∧ 0 ≤ u ∧ u < 2097152 from fun x hx => by rw [hne x hx]; exact hh x hx)
  have HAH2 := Lib.hid (show (bs.set a ⟨0, 0, 0⟩).map Bk.ah = ah.set a 0 by rw [List.map_set, hah])
  have U4 := Lib.hid (((((Upd.refl [p, b] w).trans (Upd.set (b := p) (i := a) (u := .int .i64 PZ) (by simp))).trans (Upd.set (b := b) (i := a * 3) (u := .int .i64 ((0 : Nat) : Int)) (by simp))).trans (Upd.set (b := b) (i := a * 3 + 1) (u := .int .i64 ((0 : Nat) : Int)) (by simp))).trans (Upd.set (b := b) (i := a * 3 + 2) (u := .int .i64 ((0 : Nat) : Int)) (by simp)))
  have hqp := hab.ne.1
  clear hab hab1 hab2 hab3 hab4 hah hfl hh hv hx hx1 hx2 ha hne han hbl
  generalize ws.length = n at *
  unfold PZ at *
  go_enter Try.func44, Try.ntmps44
  go_wp2
  go_end0
  exact ⟨rfl, ⟨_, fr, AB4.out, HAH2.out, FL4.out, HH1.out⟩, U4.out⟩
set_option maxRecDepth 1000000 in
set_option maxHeartbeats 6400000 in
theorem release_any (q p b : Nat) (ws : List Int) (ah : List Nat) (P : Nat → Prop) (w : World) (h : Mem q p b ws ah P w) (a s : Nat) (ha : ¬ P a) (ha0 : 0 < a) (han : a < ws.length) (hs : s < 1048576) :
    Calls Try.prog 28 #[.pointer (some ⟨q, 0, none⟩), .int .i64 (a : Int), .int .i64 (s : Int)] w fun e w' => e = .returned (.tuple #[]) ∧
      Mem q p b (ws.set a (2 * (s : Int))) (ahAt ah ws.length (a + s) s) (fun x => P x ∨ x = a) w' ∧ Upd [q, p, b] w w' := by
  have HM := Lib.hid (mark_any q p b ws ah P w h a s 0 ha han (by omega) (by omega))
  rw [show 2 * (s : Int) + ((0 : Nat) : Int) = 2 * (s : Int) by omega] at HM
  have HA := Lib.hid (fun W h => add_any q p b (ws.set a (2 * (s : Int))) (ahAt ah ws.length (a + s) s) P W h a ha ha0 (2 * (s : Int)) (List.getElem?_set_self han) (by omega) (by omega))
  clear h
  generalize ws.set a (2 * (s : Int)) = ws1 at *
  generalize ahAt ah ws.length (a + s) s = ah1 at *
  clear ha han
  go_enter Try.func28, Try.ntmps28
  go_wp2_with fail
  refine (HM.out).mono ?_
  rintro e w1 ⟨rfl, hm, hu⟩
  have HA1 := Lib.hid (HA.out w1 hm)
  have U1 := Lib.hid hu
  clear hm hu
  go_wp2_with fail
  refine (HA1.out).mono ?_
  rintro e w2 ⟨rfl, hm, hu⟩
  have M2 := Lib.hid hm
  have U2 := Lib.hid ((U1.out.mono (T := [q, p, b]) (by simp)).trans (hu.mono (by simp)))
  clear hm hu
  go_wp2
  go_end0
  exact ⟨rfl, M2.out, U2.out⟩
/-- What best answers: the free block of the smallest key among those that are great enough; 0: there is none. -/
def Best (ws : List Int) (P : Nat → Prop) (s r : Nat) : Prop := (r = 0 ∧ ∀ a, P a → szW ws a < s) ∨ (P r ∧ 0 < r ∧ s ≤ szW ws r ∧ ∀ a, P a → s ≤ szW ws a → keyW ws r ≤ keyW ws a)
set_option maxRecDepth 1000000 in
set_option maxHeartbeats 6400000 in
theorem best_any (q p b : Nat) (ws : List Int) (ah : List Nat) (P : Nat → Prop) (w : World) (h : Mem q p b ws ah P w) (s : Nat) (hs : s ≤ 2097152) :
    Calls Try.prog 38 #[.pointer (some ⟨q, 0, none⟩), .int .i64 (s : Int)] w fun e w' => ∃ r : Nat, e = .returned (.int .i64 (r : Int)) ∧ Best ws P s r ∧ ∃ n, w' = w.drewN n := by
  obtain ⟨bs, fr, hab, hah, hfl, hh⟩ := h
  have HAB := Lib.hid hab
  have HFL := Lib.hid hfl
  have HH := Lib.hid hh
  have hszb : ∀ a, P a → szW ws a < 1048576 := fun a ha => by
    obtain ⟨v, h1, h2, h3⟩ := hh a ha
    have := szW_of h1 h2
    omega
  have HSZ := Lib.hid hszb
  have HC := Lib.hid (class_any s (by omega) w)
  have HCM := Lib.hid (fun a (h : s ≤ szW ws a) => cls_mono h)
  have hcb : cls s ≤ 22 := Lib.bitLen_le s 22 (by decide) (by omega)
  obtain ⟨c0', hc0'⟩ : ∃ c, cls s = c := ⟨_, rfl⟩
  rw [hc0'] at HC HCM hcb
  clear hab hah hfl hh hszb hc0'
  go_enter Try.func38, Try.ntmps38
  go_wp2_with fail
  refine (HC.out).mono ?_
  rintro e w' ⟨rfl, rfl⟩
  go_wp2
  go_loopg [5] (22 - c0') (fun g cv wx => ∃ c : Nat, cv = .int .i64 (c : Int) ∧ c ≤ 22 ∧ c + g = 22 ∧ (∀ a, P a → s ≤ szW ws a → c ≤ cls (szW ws a)) ∧ ∃ n, wx = w'.drewN n)
  case atStart => exact ⟨c0', rfl, hcb, by omega, fun a ha h => HCM.out a h, 0, rfl⟩
  case round =>
    obtain ⟨c, rfl, hc22, hcg, hlow, hn⟩ := hrel
    have HLO := Lib.hid hlow
    have hab2 : AB q p b ws bs fr wr := by
      obtain ⟨n, hn⟩ := hn
      rw [hn]
      exact HAB.out.drewN n
    have HNW := Lib.hid hn
    clear hlow hn
    by_cases hc : c < 21
    · have hci : (c : Int) < 21 := by omega
      have hgg : gk - 1 < gk := by omega
      obtain ⟨t, ht, htop, hts, htm⟩ := HFL.out.tree c hc
      have hth : Heads ws t.flat := fun x hx => by
        obtain ⟨u, h1, h2, h3⟩ := HH.out x ((htm x).1 hx).1
        exact ⟨u, h1, h2, by omega⟩
      have htp : ∀ a ∈ t.flat, 0 < a := fun a ha => (ht.pos a ha).1
      have htn : ∀ a ∈ t.flat, a < 1048576 := fun a ha => by
        have h1 := (ht.pos a ha).2
        have h2 := HAB.out.bl
        have h3 := HAB.out.n2
        omega
      have hc0 := hab2.top htop
      obtain ⟨l1, l2, l3⟩ := hab2.lt
      have HSK := Lib.hid (fun W => sizeKey_any s (by omega) W)
      have HF := Lib.hid (fun W (h : AB q p b ws bs fr W) => first_any q p b ws bs fr ((s : Int) * 1048576) t W h ht hts hth)
      have hsp := first_spec (k := (s : Int) * 1048576) hts htp
      obtain ⟨r, hr⟩ : ∃ r, firstL (keyW ws) ((s : Int) * 1048576) t.flat = r := ⟨_, rfl⟩
      rw [hr] at HF hsp
      have HSP := Lib.hid hsp
      have HTM := Lib.hid htm
      have HTN := Lib.hid htn
      have HTP := Lib.hid htp
      have AB2 := Lib.hid hab2
      clear hr hsp hab2 htm htn htp hth hts htop ht
      go_wp2
      go_quiet ((first | (go_at_call 52; exact Calls.quiet_of_same (HSK.out _)) | (go_at_call 51; exact Calls.quiet_of (HF.out _ (AB2.out.drewN _)))))
      by_cases hr0 : r = 0
      · subst hr0
        have HN := Lib.hid (show ∀ a ∈ t.flat, keyW ws a < (s : Int) * 1048576 from by
          rcases HSP.out with ⟨_, h⟩ | ⟨h, _⟩
          · exact h
          · intro a ha
            exact absurd (HTP.out 0 h) (Nat.lt_irrefl 0))
        go_wp2
        go_roundg (gk - 1)
        case measure => exact hgg
        case rel =>
          refine ⟨c + 1, by go_num, by omega, by omega, fun a ha hsa => ?_, by obtain ⟨n, hn⟩ := HNW.out; exact ⟨_, by rw [hn, drewN_two]⟩⟩
          have h1 := HLO.out a ha hsa
          rcases Nat.lt_or_ge c (cls (szW ws a)) with h2 | h2
          · omega
          · exfalso
            have h3 := HN.out a ((HTM.out a).2 ⟨ha, by omega⟩)
            unfold keyW at h3
            omega
      · have hrz : ((r : Int) == 0) = false := by rw [beq_eq_false_iff_ne]; omega
        have hrz2 : ((r : Int) != 0) = true := by rw [bne, hrz]; rfl
        have HB := Lib.hid (show Best ws P s r from by
          rcases HSP.out with ⟨h, _⟩ | ⟨h1, h2, h3⟩
          · exact absurd h hr0
          · obtain ⟨g1, g2⟩ := (HTM.out r).1 h1
            have hrn := HTN.out r h1
            refine .inr ⟨g1, by omega, ?_, fun a ha hsa => ?_⟩
            · unfold keyW at h2; omega
            · have h4 := HLO.out a ha hsa
              rcases Nat.lt_or_ge c (cls (szW ws a)) with h5 | h5
              · have h6 : szW ws r < szW ws a := by
                  rcases Nat.lt_or_ge (szW ws r) (szW ws a) with h7 | h7
                  · exact h7
                  · have := cls_mono h7; omega
                unfold keyW; omega
              · exact h3 a ((HTM.out a).2 ⟨ha, by omega⟩) (by unfold keyW; omega))
        clear hr0
        go_wp2
        go_ret
        exact ⟨r, rfl, HB.out, by obtain ⟨n, hn⟩ := HNW.out; exact ⟨_, by rw [hn, drewN_two]⟩⟩
    · have hci : (21 : Int) ≤ (c : Int) := by omega
      have HB := Lib.hid (show Best ws P s 0 from .inl ⟨rfl, fun a ha => by
        rcases Nat.lt_or_ge (szW ws a) s with h | h
        · exact h
        · have h1 := HLO.out a ha h
          have h2 := cls_lt (HSZ.out a ha)
          omega⟩)
      go_wp2
      go_ret
      exact ⟨0, rfl, HB.out, HNW.out⟩
end Go.Proofs.Ytmgpimibnogcaaa
