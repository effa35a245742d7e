/-
  WALKS of the lists of free blocks: remove, add.
-/
import Derived.Test.YtmgpimibnogcaaaW2
import Derived.RegionTactic
import Derived.Deep.RegionWith
import Derived.ChangeAlike
import Derived.StillTailTactics
set_option linter.unusedVariables false
set_option linter.unusedSimpArgs false
namespace Go.Proofs.Ytmgpimibnogcaaa
open Go.RowKit

theorem Agree.map_ah {S : List Nat} {a b : List Bk} (h : Agree S a b) : b.map Bk.ah = a.map Bk.ah := by
  refine List.ext_getElem? fun i => ?_
  rw [List.getElem?_map, List.getElem?_map]
  exact h.ah i
/-- The arena's words ws, the notes on blocks ahead ah, the blocks P in the lists. -/
def Mem (q p b : Nat) (ws : List Int) (ah : List Nat) (P : Nat → Prop) (w : World) : Prop := ∃ bs fr, AB q p b ws bs fr w ∧ bs.map Bk.ah = ah ∧ FL ws bs fr P ∧ ∀ a, P a → ∃ v, ws[a]? = some v ∧ 0 ≤ v ∧ v < 2097152
set_option maxRecDepth 1000000 in
set_option maxHeartbeats 6400000 in
theorem remove_any (q p b : Nat) (ws : List Int) (ah : List Nat) (P : Nat → Prop) (w : World) (h : Mem q p b ws ah P w) (a : Nat) (ha : P a) :
    Calls Try.prog 39 #[.pointer (some ⟨q, 0, none⟩), .int .i64 (a : Int)] w fun e w' => e = .returned (.tuple #[]) ∧ Mem q p b ws ah (fun x => P x ∧ x ≠ a) w' ∧ Upd [q, b] w w' := by
  obtain ⟨bs, fr, hab, hah, hfl, hh⟩ := h
  obtain ⟨v, hv, hv0, hv1⟩ := hh a ha
  have hsv := szW_of hv hv0
  have hcl : cls (szW ws a) ≤ 20 := cls_lt (by omega)
  obtain ⟨t, ht, htop, hts, htm⟩ := hfl.tree (cls (szW ws a)) (by omega)
  have hat : a ∈ t.flat := (htm a).2 ⟨ha, rfl⟩
  have hth : Heads ws t.flat := fun x hx => by
    obtain ⟨u, h1, h2, h3⟩ := hh x ((htm x).1 hx).1
    exact ⟨u, h1, h2, by omega⟩
  have HSZ := Lib.hid (fun W (h : AB q p b ws bs fr W) => size_any h a v hv hv0 (by omega))
  have HCL := Lib.hid (fun W => class_any (szW ws a) (by omega) W)
  have HKY := Lib.hid (fun bs' W (h : AB q p b ws bs' fr W) => key_any h a v hv hv0 (by omega))
  have HSP := Lib.hid (fun W (h : AB q p b ws bs fr W) => split_any q p b ws fr (keyW ws a) t bs W h ht hts.nodup hth)
  have HREM := Lib.hid (rem_list hts hat)
  have HSUB := Lib.hid (splitT_sub (keyW ws) (keyW ws a) t)
  have HFL1 := Lib.hid (splitT_flat (keyW ws) (keyW ws a) t)
  have HP2N : (splitT (keyW ws) (keyW ws a) t).2.flat.Nodup := by
    have := hts.nodup
    rw [← splitT_flat (keyW ws) (keyW ws a) t] at this
    exact (List.nodup_append.1 this).2.1
  have HDIS := Lib.hid (show ∀ x ∈ (splitT (keyW ws) (keyW ws a) t).1.flat, x ∉ (splitT (keyW ws) (keyW ws a) t).2.flat from fun x hx hy => by
    have := hts.nodup
    rw [← splitT_flat (keyW ws) (keyW ws a) t] at this
    exact (List.nodup_append.1 this).2.2 x hx x hy rfl)
  have HFL2 := Lib.hid (splitT_flat (keyW ws) (keyW ws a + 1) (splitT (keyW ws) (keyW ws a) t).2)
  have HS2 := Lib.hid (fun bs' W (h : AB q p b ws bs' fr W) ht => split_any q p b ws fr (keyW ws a + 1) (splitT (keyW ws) (keyW ws a) t).2 bs' W h ht HP2N (hth.sub (splitT_sub (keyW ws) (keyW ws a) t).2))
  clear HP2N
  have HAB := Lib.hid hab
  have HFL := Lib.hid hfl
  have HTM := Lib.hid htm
  have HH := Lib.hid hh
  have HAH := Lib.hid hah
  have HTOP := Lib.hid htop
  have HAT := Lib.hid hat
  have HA := Lib.hid ha
  have hc0 := hab.top htop
  obtain ⟨l1, l2, l3⟩ := hab.lt
  have hcc : cls (szW ws a) < 21 := by omega
  have HCC := Lib.hid hcc
  have hKb : -9223372036854775808 ≤ keyW ws a ∧ keyW ws a ≤ 9000000000000000000 := by
    have := (List.getElem?_eq_some_iff.1 hv).1
    have := hab.n2
    unfold keyW
    omega
  generalize hC : cls (szW ws a) = C at *
  have hci : (C : Int) < 21 := by omega
  generalize hS : szW ws a = S at *
  generalize hK : keyW ws a = K at *
  generalize splitT (keyW ws) K t = SP at *
  obtain ⟨p1, p2⟩ := SP
  simp only at HSP HREM HSUB HFL1 HDIS HFL2 HS2
  generalize splitT (keyW ws) (K + 1) p2 = SQ at *
  obtain ⟨q1, q2⟩ := SQ
  simp only at HREM HFL2 HS2
  have HJO := Lib.hid (fun bs' W (h : AB q p b ws bs' fr W) hp hq => join_any q p b ws fr (p1.size + q2.size) p1 q2 bs' W (Nat.le_refl _) h hp hq (HREM.out.2.1.nodup))
  clear hab hsv hC hS hK hfl htm hh hah hts hat hth ht htop hcc hcl
  go_enter Try.func39, Try.ntmps39
  go_wp2
  go_quiet ((first | (go_at_call 40; exact Calls.quiet_of_same (HSZ.out _ (HAB.out.drewN _))) | (go_at_call 50; exact Calls.quiet_of_same (HCL.out _))))
  go_wp2
  go_region_with (first | (refine (HKY.out bs _ (HAB.out.drewN _)).mono ?_; rintro e w' ⟨rfl, rfl⟩) | (refine (HSP.out _ (HAB.out.drewN _)).mono ?_; rintro e w5 ⟨bs1, rfl, hab1, hag1, ht1, ht2, hu1⟩))
  all_goals
    have AB1 := Lib.hid hab1
    have AG1 := Lib.hid hag1
    have T1 := Lib.hid ht1
    have T2 := Lib.hid ht2
    have U1 := Lib.hid (show Upd [q, b] w w5 from ((Upd.refl [q, b] w).drewN _).trans (hu1.mono (by simp)))
    clear hab1 hag1 ht1 ht2 hu1
    go_wp2_with fail
    refine (HKY.out bs1 _ AB1.out).mono ?_
    rintro e w' ⟨rfl, rfl⟩
    go_wp2_with fail
    refine (HS2.out bs1 _ AB1.out T2.out).mono ?_
    rintro e w6 ⟨bs2, rfl, hab2, hag2, hq1, hq2, hu2⟩
    have AB2 := Lib.hid hab2
    have AG2 := Lib.hid hag2
    have Q1 := Lib.hid hq1
    have Q2 := Lib.hid hq2
    have U2 := Lib.hid (U1.out.trans (hu2.mono (by simp)))
    have P1 := Lib.hid (T1.out.agree hag2 HDIS.out)
    clear hab2 hag2 hq1 hq2 hu2
    go_wp2_with fail
    refine (HJO.out bs2 _ AB2.out P1.out Q2.out).mono ?_
    rintro e w7 ⟨bs3, y, rfl, hab3, hag3, hty, hyf, hu3⟩
    have AB3 := Lib.hid hab3
    have AG3 := Lib.hid hag3
    have TY := Lib.hid hty
    have YF := Lib.hid hyf
    have U3 := Lib.hid (U2.out.trans (hu3.mono (by simp)))
    have hf3 := (hab3.frozen (2 + C)).1
    have hc3 := hab3.top (c := C) (v := t.top) HTOP.out
    obtain ⟨m1, m2, m3⟩ := hab3.lt
    clear hab3 hag3 hty hyf hu3 hc0 l1 l2 l3
    go_wp2
    go_end0
    refine ⟨rfl, ⟨bs3, fr.set C y.top, AB3.out.set_top C y.top, ?_, ?_, ?_⟩, U3.out.trans (Upd.set (by simp))⟩
    · rw [AG3.out.map_ah, AG2.out.map_ah, AG1.out.map_ah, HAH.out]
    · have hin : ∀ x, x ∈ p1.flat ++ q2.flat ↔ x ∈ t.flat ∧ x ≠ a := HREM.out.2.2
      have ag : Agree t.flat bs bs3 := (AG1.out.trans (AG2.out.mono HSUB.out.2)).trans (AG3.out.mono fun x hx => ((hin x).1 hx).1)
      refine HFL.out.turn (t := t) (by omega) ag (fun x hx => ((HTM.out x).1 hx).2) TY.out (by rw [YF.out]; exact HREM.out.2.1) (fun x => ?_) (fun x hx => ?_) (fun x b' hx hp hb => ?_) (fun x hx hp hpx => ?_)
      · rw [YF.out, hin x, HTM.out x]
        constructor
        · exact fun h => ⟨⟨h.1.1, h.2⟩, h.1.2⟩
        · exact fun h => ⟨⟨h.1.1, h.2⟩, h.1.2⟩
      · constructor
        · exact fun h => h.1
        · exact fun h => ⟨h, fun e => hx (by rw [e]; exact ((HTM.out a).1 HAT.out).2)⟩
      · have hxa : x = a := Classical.byContradiction fun hne => hp ⟨((HTM.out x).1 hx).1, hne⟩
        subst hxa
        have h1 := Q1.out
        rw [flat_one HREM.out.1] at h1
        obtain ⟨_, ⟨c, h2, h3, h4⟩, _⟩ := h1
        have h5 := AG3.out.out x (fun h => ((hin x).1 h).2 rfl)
        rw [hb, h2] at h5
        obtain rfl := Option.some.inj h5
        exact ⟨h3, h4⟩
      · exact hx (by
          have hxa : x = a := Classical.byContradiction fun hne => hp ⟨hpx, hne⟩
          rw [hxa]
          exact HAT.out)
    · exact fun x hx => HH.out x hx.1
theorem keyW_inj {ws : List Int} {x a : Nat} (h : keyW ws x = keyW ws a) (hx : x < 1048576) (ha : a < 1048576) : x = a := by
  unfold keyW at h
  omega
set_option maxRecDepth 1000000 in
set_option maxHeartbeats 6400000 in
theorem add_any (q p b : Nat) (ws : List Int) (ah : List Nat) (P : Nat → Prop) (w : World) (h : Mem q p b ws ah P w) (a : Nat) (ha : ¬ P a) (ha0 : 0 < a) (v : Int) (hv : ws[a]? = some v) (hv0 : 0 ≤ v) (hv1 : v < 2097152) :
    Calls Try.prog 47 #[.pointer (some ⟨q, 0, none⟩), .int .i64 (a : Int)] w fun e w' => e = .returned (.tuple #[]) ∧ Mem q p b ws ah (fun x => P x ∨ x = a) w' ∧ Upd [q, b] w w' := by
  obtain ⟨bs, fr, hab, hah, hfl, hh⟩ := h
  have hsv := szW_of hv hv0
  have hcl : cls (szW ws a) ≤ 20 := cls_lt (by omega)
  obtain ⟨t, ht, htop, hts, htm⟩ := hfl.tree (cls (szW ws a)) (by omega)
  have hat : a ∉ t.flat := fun h => ha ((htm a).1 h).1
  have han : a < ws.length := (List.getElem?_eq_some_iff.1 hv).1
  have hth : Heads ws t.flat := fun x hx => by
    obtain ⟨u, h1, h2, h3⟩ := hh x ((htm x).1 hx).1
    exact ⟨u, h1, h2, by omega⟩
  obtain ⟨x, hx⟩ : ∃ x, bs[a]? = some x := ⟨_, List.getElem?_eq_getElem (by rw [hab.bl]; exact han)⟩
  have hone : IsT bs (.node .nil a .nil) := ⟨ha0, ⟨x, hx, (hfl.bare a x ha hx).1, (hfl.bare a x ha hx).2⟩, trivial, trivial⟩
  have hne : ∀ y ∈ t.flat, keyW ws y ≠ keyW ws a := fun y hy e => by
    have h1 := (ht.pos y hy).2
    have h2 := hab.n2
    have h3 := hab.bl
    have := keyW_inj e (by omega) (by omega)
    subst this
    exact hat hy
  have HSZ := Lib.hid (fun W (h : AB q p b ws bs fr W) => size_any h a v hv hv0 (by omega))
  have HCL := Lib.hid (fun W => class_any (szW ws a) (by omega) W)
  have HKY := Lib.hid (fun bs' W (h : AB q p b ws bs' fr W) => key_any h a v hv hv0 (by omega))
  have HSP := Lib.hid (fun W (h : AB q p b ws bs fr W) => split_any q p b ws fr (keyW ws a) t bs W h ht hts.nodup hth)
  have HADD := Lib.hid (add_list hts hne)
  have HSUB := Lib.hid (splitT_sub (keyW ws) (keyW ws a) t)
  have HFL1 := Lib.hid (splitT_flat (keyW ws) (keyW ws a) t)
  have HDIS := Lib.hid (show ∀ x ∈ (splitT (keyW ws) (keyW ws a) t).1.flat, x ∉ (splitT (keyW ws) (keyW ws a) t).2.flat from fun x hx hy => by
    have := hts.nodup
    rw [← splitT_flat (keyW ws) (keyW ws a) t] at this
    exact (List.nodup_append.1 this).2.2 x hx x hy rfl)
  have HAB := Lib.hid hab
  have HFL := Lib.hid hfl
  have HTM := Lib.hid htm
  have HH := Lib.hid hh
  have HAH := Lib.hid hah
  have HTOP := Lib.hid htop
  have HAT := Lib.hid hat
  have HA := Lib.hid ha
  have HV := Lib.hid (show ∃ v, ws[a]? = some v ∧ 0 ≤ v ∧ v < 2097152 from ⟨v, hv, hv0, hv1⟩)
  have HONE := Lib.hid hone
  have hc0 := hab.top htop
  obtain ⟨l1, l2, l3⟩ := hab.lt
  have HCA := Lib.hid (show cls (szW ws a) = cls (szW ws a) from rfl)
  have hcc : cls (szW ws a) < 21 := by omega
  obtain ⟨C, hC⟩ : ∃ C, cls (szW ws a) = C := ⟨_, rfl⟩
  have HCE := Lib.hid hC
  rw [hC] at HCL hcl hcc htop htm hc0 HTOP HTM
  have hci : (C : Int) < 21 := by omega
  clear hC HCA
  generalize hK : keyW ws a = K at HKY HSP HADD HSUB HFL1 HDIS hne
  obtain ⟨S, hS⟩ : ∃ S, szW ws a = S := ⟨_, rfl⟩
  rw [hS] at HSZ HCL
  generalize splitT (keyW ws) K t = SP at *
  obtain ⟨p1, p2⟩ := SP
  simp only at HSP HADD HSUB HFL1 HDIS
  have HND := Lib.hid HADD.out.nodup
  have HJ1 := Lib.hid (fun bs' W (h : AB q p b ws bs' fr W) hp hq => join_any q p b ws fr (p1.size + (Tr.node .nil a .nil).size) p1 (.node .nil a .nil) bs' W (Nat.le_refl _) h hp hq (by
    refine (List.Sublist.nodup ?_ HND.out)
    exact List.Sublist.append (List.Sublist.refl _) (by simp [Tr.flat])))
  have HJ2 := Lib.hid (fun y bs' W (hy : y.flat = p1.flat ++ [a]) (h : AB q p b ws bs' fr W) hp hq => join_any q p b ws fr (y.size + p2.size) y p2 bs' W (Nat.le_refl _) h hp hq (by
    rw [hy, List.append_assoc]
    exact HND.out))
  rw [show (Tr.node .nil a .nil).top = a from rfl] at HJ1
  rw [show (Tr.node .nil a .nil).flat = [a] from rfl] at HJ1
  clear hab hsv hS hK hfl htm hh hah hts hat hth ht htop hcc hcl hv hone hne hx ha
  go_enter Try.func47, Try.ntmps47
  go_wp2
  go_quiet ((first | (go_at_call 40; exact Calls.quiet_of_same (HSZ.out _ (HAB.out.drewN _))) | (go_at_call 50; exact Calls.quiet_of_same (HCL.out _))))
  go_wp2
  go_region_with (first | (refine (HKY.out bs _ (HAB.out.drewN _)).mono ?_; rintro e w' ⟨rfl, rfl⟩) | (refine (HSP.out _ (HAB.out.drewN _)).mono ?_; rintro e w5 ⟨bs1, rfl, hab1, hag1, ht1, ht2, hu1⟩))
  all_goals
    have AB1 := Lib.hid hab1
    have AG1 := Lib.hid hag1
    have T1 := Lib.hid ht1
    have T2 := Lib.hid ht2
    have U1 := Lib.hid (show Upd [q, b] w w5 from ((Upd.refl [q, b] w).drewN _).trans (hu1.mono (by simp)))
    have O1 := Lib.hid (HONE.out.agree hag1 (fun y hy => by
      rw [show (Tr.node .nil a .nil).flat = [a] from rfl, List.mem_singleton] at hy
      rw [hy]
      exact HAT.out))
    clear hab1 hag1 ht1 ht2 hu1
    go_wp2_with fail
    refine (HJ1.out bs1 _ AB1.out T1.out O1.out).mono ?_
    rintro e w6 ⟨bs2, y1, rfl, hab2, hag2, hq1, hyf1, hu2⟩
    have AB2 := Lib.hid hab2
    have AG2 := Lib.hid hag2
    have Q1 := Lib.hid hq1
    have Y1F := Lib.hid hyf1
    have U2 := Lib.hid (U1.out.trans (hu2.mono (by simp)))
    have P2 := Lib.hid (T2.out.agree hag2 (fun y hy hz => by
      rcases List.mem_append.1 hz with hz | hz
      · exact HDIS.out y hz hy
      · rw [List.mem_singleton.1 hz] at hy
        exact HAT.out (HSUB.out.2 a hy)))
    clear hab2 hag2 hq1 hyf1 hu2
    go_wp2_with fail
    refine (HJ2.out y1 bs2 _ Y1F.out AB2.out Q1.out P2.out).mono ?_
    rintro e w7 ⟨bs3, y, rfl, hab3, hag3, hty, hyf, hu3⟩
    have AB3 := Lib.hid hab3
    have AG3 := Lib.hid hag3
    have TY := Lib.hid hty
    have YF := Lib.hid (show y.flat = p1.flat ++ a :: p2.flat by rw [hyf, Y1F.out, List.append_assoc]; rfl)
    have U3 := Lib.hid (U2.out.trans (hu3.mono (by simp)))
    have hf3 := (hab3.frozen (2 + C)).1
    have hc3 := hab3.top (c := C) (v := t.top) HTOP.out
    obtain ⟨m1, m2, m3⟩ := hab3.lt
    clear hab3 hag3 hty hyf hu3 hc0 l1 l2 l3
    go_wp2
    go_end0
    refine ⟨rfl, ⟨bs3, fr.set C y.top, AB3.out.set_top C y.top, ?_, ?_, ?_⟩, U3.out.trans (Upd.set (by simp))⟩
    · rw [AG3.out.map_ah, AG2.out.map_ah, AG1.out.map_ah, HAH.out]
    · have hin : ∀ z, z ∈ y.flat ↔ z = a ∨ z ∈ t.flat := fun z => by
        rw [YF.out, ← HFL1.out]
        simp only [List.mem_append, List.mem_cons]
        constructor
        · rintro (h | h | h)
          · exact .inr (.inl h)
          · exact .inl h
          · exact .inr (.inr h)
        · rintro (h | h | h)
          · exact .inr (.inl h)
          · exact .inl h
          · exact .inr (.inr h)
      have ag : Agree (a :: t.flat) bs bs3 := ((AG1.out.mono fun z hz => List.mem_cons_of_mem _ hz).trans (AG2.out.mono fun z hz => by
        rcases List.mem_append.1 hz with hz | hz
        · exact List.mem_cons_of_mem _ (HSUB.out.1 z hz)
        · rw [List.mem_singleton.1 hz]
          exact List.mem_cons_self ..)).trans (AG3.out.mono fun z hz => by
        rw [Y1F.out, List.append_assoc] at hz
        have := (hin z).1 (by rw [YF.out]; exact hz)
        exact List.mem_cons.2 this)
      refine HFL.out.turn (t := t) (by omega) ag (fun z hz => ?_) TY.out (by rw [YF.out]; exact HADD.out) (fun z => ?_) (fun z hz => ?_) (fun z b' hz hp hb => ?_) (fun z hz hp hpx => hp (.inl hpx))
      · rcases List.mem_cons.1 hz with rfl | hz
        · exact HCE.out
        · exact ((HTM.out z).1 hz).2
      · rw [hin z, HTM.out z]
        constructor
        · rintro (rfl | h)
          · exact ⟨.inr rfl, HCE.out⟩
          · exact ⟨.inl h.1, h.2⟩
        · rintro ⟨h | h, hc⟩
          · exact .inr ⟨h, hc⟩
          · exact .inl h
      · constructor
        · rintro (h | h)
          · exact h
          · exact absurd (by rw [h]; exact HCE.out) hz
        · exact fun h => .inl h
      · exfalso
        rcases List.mem_cons.1 hz with rfl | hz
        · exact hp (.inr rfl)
        · exact hp (.inl ((HTM.out z).1 hz).1)
    · rintro z (hz | rfl)
      · exact HH.out z hz
      · exact HV.out
end Go.Proofs.Ytmgpimibnogcaaa
