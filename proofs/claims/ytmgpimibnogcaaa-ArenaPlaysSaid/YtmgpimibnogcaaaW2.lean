/-
  WALKS of the lists of free blocks: split, join, first.
-/
import Derived.Test.YtmgpimibnogcaaaW1
set_option linter.unusedVariables false
set_option linter.unusedSimpArgs false
namespace Go.Proofs.Ytmgpimibnogcaaa
open Go.RowKit

section
variable {q p b : Nat} {ws : List Int} {bs : List Bk} {fr : List Nat} {w : World}
theorem AB.bk3 (h : AB q p b ws bs fr w) {a : Nat} {x : Bk} (hx : bs[a]? = some x) : w.cell? ⟨b, a * 3, none⟩ = some (.int .i64 (x.ah : Int)) ∧ w.cell? ⟨b, a * 3 + 1, none⟩ = some (.int .i64 (x.lf : Int)) ∧ w.cell? ⟨b, a * 3 + 2, none⟩ = some (.int .i64 (x.rt : Int)) := by
  have := h.bk hx
  rwa [Nat.mul_comm] at this
theorem AB.set_lf3 (h : AB q p b ws bs fr w) {a : Nat} {x : Bk} (hx : bs[a]? = some x) (v : Nat) : AB q p b ws (bs.set a ⟨x.ah, v, x.rt⟩) fr (w.setCell ⟨b, a * 3 + 1, none⟩ (.int .i64 (v : Int))) := by
  have := h.set_lf hx v
  rwa [Nat.mul_comm] at this
theorem AB.set_rt3 (h : AB q p b ws bs fr w) {a : Nat} {x : Bk} (hx : bs[a]? = some x) (v : Nat) : AB q p b ws (bs.set a ⟨x.ah, x.lf, v⟩) fr (w.setCell ⟨b, a * 3 + 2, none⟩ (.int .i64 (v : Int))) := by
  have := h.set_rt hx v
  rwa [Nat.mul_comm] at this
theorem AB.set_ah3 (h : AB q p b ws bs fr w) {a : Nat} {x : Bk} (hx : bs[a]? = some x) (v : Nat) : AB q p b ws (bs.set a ⟨v, x.lf, x.rt⟩) fr (w.setCell ⟨b, a * 3, none⟩ (.int .i64 (v : Int))) := by
  have := h.set_ah hx v
  rwa [Nat.mul_comm] at this
end
/-- The heads of the addresses l are those of blocks. -/
def Heads (ws : List Int) (l : List Nat) : Prop := ∀ a ∈ l, ∃ v, ws[a]? = some v ∧ 0 ≤ v ∧ v ≤ 2097152
theorem Heads.sub {ws : List Int} {l m : List Nat} (h : Heads ws l) (hs : ∀ a ∈ m, a ∈ l) : Heads ws m := fun a ha => h a (hs a ha)
set_option maxRecDepth 1000000 in
set_option maxHeartbeats 6400000 in
theorem split_any (q p b : Nat) (ws : List Int) (fr : List Nat) (k : Int) : ∀ (t : Tr) (bs : List Bk) (w : World), AB q p b ws bs fr w → IsT bs t → t.flat.Nodup → Heads ws t.flat →
    Calls Try.prog 53 #[.pointer (some ⟨q, 0, none⟩), .int .i64 (t.top : Int), .int .i64 k] w fun e w' => ∃ bs', e = .returned (.tuple #[.int .i64 ((splitT (keyW ws) k t).1.top : Int), .int .i64 ((splitT (keyW ws) k t).2.top : Int)]) ∧
      AB q p b ws bs' fr w' ∧ Agree t.flat bs bs' ∧ IsT bs' (splitT (keyW ws) k t).1 ∧ IsT bs' (splitT (keyW ws) k t).2 ∧ Upd [b] w w' := by
  intro t
  induction t with
  | nil =>
    intro bs w h ht hn hh
    have H := Lib.hid h
    clear h
    unfold Tr.top splitT
    simp only
    go_enter Try.func53, Try.ntmps53
    go_wp2
    go_ret2
    exact ⟨bs, rfl, H.out, Agree.refl _ _, trivial, trivial, Upd.refl _ _⟩
  | node l a r ihl ihr =>
    intro bs w h ht hn hh
    obtain ⟨h0, ⟨x, hx, hlf, hrt⟩, htl, htr⟩ := ht
    obtain ⟨n1, n2, n3, n4, n5⟩ := node_nodup hn
    obtain ⟨v, hv, hv0, hv1⟩ := hh a (by simp [Tr.flat])
    have hl : ∀ y ∈ l.flat, y ∈ (Tr.node l a r).flat := fun y hy => by simp [Tr.flat, hy]
    have hr : ∀ y ∈ r.flat, y ∈ (Tr.node l a r).flat := fun y hy => by simp [Tr.flat, hy]
    have han : a < ws.length := (List.getElem?_eq_some_iff.1 hv).1
    have hani : (a : Int) < (ws.length : Int) := by omega
    have ha0 : (a : Int) ≠ 0 := by omega
    have haz : ((a : Int) == 0) = false := by rw [beq_eq_false_iff_ne]; exact ha0
    have c1 := h.box1
    obtain ⟨k0, k1, k2⟩ := h.bk3 hx
    rw [hlf] at k1
    rw [hrt] at k2
    obtain ⟨l1, l2, l3⟩ := h.lt
    have H := Lib.hid h
    have HK := Lib.hid (key_any h a v hv hv0 hv1)
    have HX := Lib.hid hx
    have HLF := Lib.hid hlf
    have HRT := Lib.hid hrt
    have TL := Lib.hid htl
    have TR := Lib.hid htr
    by_cases hk : keyW ws a < k
    · have HS := Lib.hid (show splitT (keyW ws) k (.node l a r) = (.node l a (splitT (keyW ws) k r).1, (splitT (keyW ws) k r).2) by rw [splitT, if_pos hk])
      have HI := Lib.hid (ihr bs w h htr n2 (hh.sub hr))
      have HSUB := Lib.hid (splitT_sub (keyW ws) k r)
      rw [HS.out]
      rw [show (Tr.node l a r).top = a from rfl]
      generalize splitT (keyW ws) k r = S at *
      obtain ⟨S1, S2⟩ := S
      simp only at HI HSUB ⊢
      rw [show (Tr.node l a S1).top = a from rfl]
      generalize keyW ws a = K at *
      clear h hx hlf hrt htl htr ihl ihr hv hn hh HS
      go_enter Try.func53, Try.ntmps53
      go_wp2_with fail
      refine (HK.out).mono ?_
      rintro e w' ⟨rfl, rfl⟩
      go_wp2_with fail
      refine (HI.out).mono ?_
      rintro e w1 ⟨bs1, rfl, h1, ha1, t1, t2, hu⟩
      have hx1 : bs1[a]? = some x := (ha1.out a n4).trans HX.out
      have hf1 := (h1.frozen (a * 3 + 2)).2.2
      clear k0 k1 k2 c1 l1 l2 l3
      obtain ⟨k0, k1, k2⟩ := h1.bk3 hx1
      obtain ⟨l1, l2, l3⟩ := h1.lt
      have c1 := h1.box1
      have H1 := Lib.hid h1
      have A1 := Lib.hid ha1
      have T1 := Lib.hid t1
      have T2 := Lib.hid t2
      have U1 := Lib.hid hu
      have HX1 := Lib.hid hx1
      clear h1 ha1 t1 t2 hu hx1
      go_wp2
      go_ret2
      refine ⟨bs1.set a ⟨x.ah, x.lf, S1.top⟩, rfl, H1.out.set_rt3 HX1.out _, ?_, ?_, ?_, U1.out.trans (Upd.set (by simp))⟩
      · exact (A1.out.mono hr).trans (Agree.set (by simp [Tr.flat]) HX1.out rfl)
      · exact link_right (TL.out.agree A1.out n5) T1.out HX1.out HLF.out h0 n3 (fun hy => n4 (HSUB.out.1 a hy))
      · exact T2.out.set fun hy => n4 (HSUB.out.2 a hy)
    · have HS := Lib.hid (show splitT (keyW ws) k (.node l a r) = ((splitT (keyW ws) k l).1, .node (splitT (keyW ws) k l).2 a r) by rw [splitT, if_neg hk])
      have HI := Lib.hid (ihl bs w h htl n1 (hh.sub hl))
      have HSUB := Lib.hid (splitT_sub (keyW ws) k l)
      rw [HS.out]
      rw [show (Tr.node l a r).top = a from rfl]
      generalize splitT (keyW ws) k l = S at *
      obtain ⟨S1, S2⟩ := S
      simp only at HI HSUB ⊢
      rw [show (Tr.node S2 a r).top = a from rfl]
      generalize keyW ws a = K at *
      clear h hx hlf hrt htl htr ihl ihr hv hn hh HS
      go_enter Try.func53, Try.ntmps53
      go_wp2_with fail
      refine (HK.out).mono ?_
      rintro e w' ⟨rfl, rfl⟩
      go_wp2_with fail
      refine (HI.out).mono ?_
      rintro e w1 ⟨bs1, rfl, h1, ha1, t1, t2, hu⟩
      have hx1 : bs1[a]? = some x := (ha1.out a n3).trans HX.out
      have hf1 := (h1.frozen (a * 3 + 1)).2.2
      clear k0 k1 k2 c1 l1 l2 l3
      obtain ⟨k0, k1, k2⟩ := h1.bk3 hx1
      obtain ⟨l1, l2, l3⟩ := h1.lt
      have c1 := h1.box1
      have H1 := Lib.hid h1
      have A1 := Lib.hid ha1
      have T1 := Lib.hid t1
      have T2 := Lib.hid t2
      have U1 := Lib.hid hu
      have HX1 := Lib.hid hx1
      clear h1 ha1 t1 t2 hu hx1
      go_wp2
      go_ret2
      refine ⟨bs1.set a ⟨x.ah, S2.top, x.rt⟩, rfl, H1.out.set_lf3 HX1.out _, ?_, ?_, ?_, U1.out.trans (Upd.set (by simp))⟩
      · exact (A1.out.mono hl).trans (Agree.set (by simp [Tr.flat]) HX1.out rfl)
      · exact T1.out.set fun hy => n3 (HSUB.out.1 a hy)
      · exact link_left (TR.out.agree A1.out fun y hy hz => n5 y hz hy) T2.out HX1.out HRT.out h0 n4 (fun hy => n3 (HSUB.out.2 a hy))
theorem IsT.top_pos {bs : List Bk} {l r : Tr} {a : Nat} (h : IsT bs (.node l a r)) : 0 < a ∧ a < bs.length := h.pos a (by simp [Tr.flat])
set_option maxRecDepth 1000000 in
set_option maxHeartbeats 6400000 in
theorem join_any (q p b : Nat) (ws : List Int) (fr : List Nat) : ∀ (m : Nat) (t u : Tr) (bs : List Bk) (w : World), t.size + u.size ≤ m → AB q p b ws bs fr w → IsT bs t → IsT bs u → (t.flat ++ u.flat).Nodup →
    Calls Try.prog 55 #[.pointer (some ⟨q, 0, none⟩), .int .i64 (t.top : Int), .int .i64 (u.top : Int)] w fun e w' => ∃ bs' y, e = .returned (.int .i64 (y.top : Int)) ∧
      AB q p b ws bs' fr w' ∧ Agree (t.flat ++ u.flat) bs bs' ∧ IsT bs' y ∧ y.flat = t.flat ++ u.flat ∧ Upd [b] w w' := by
  intro m
  induction m with
  | zero =>
    intro t u bs w hm h ht hu hn
    cases t with
    | node l a r => unfold Tr.size at hm; omega
    | nil =>
      have H := Lib.hid h
      have HU := Lib.hid hu
      clear h
      rw [show Tr.nil.top = 0 from rfl]
      generalize hz : (u.top : Int) = z
      go_enter Try.func55, Try.ntmps55
      go_wp2
      go_ret
      exact ⟨bs, u, by rw [hz]; rfl, H.out, Agree.refl _ _, HU.out, rfl, Upd.refl _ _⟩
  | succ m ih =>
    intro t u bs w hm h ht hu hn
    cases t with
    | nil =>
      have H := Lib.hid h
      have HU := Lib.hid hu
      clear h ih
      rw [show Tr.nil.top = 0 from rfl]
      generalize hz : (u.top : Int) = z
      go_enter Try.func55, Try.ntmps55
      go_wp2
      go_ret
      exact ⟨bs, u, by rw [hz]; rfl, H.out, Agree.refl _ _, HU.out, rfl, Upd.refl _ _⟩
    | node l a r =>
      have hap := ht.top_pos
      have haz : ((a : Int) == 0) = false := by rw [beq_eq_false_iff_ne]; omega
      rw [show (Tr.node l a r).top = a from rfl]
      cases u with
      | nil =>
        have H := Lib.hid h
        have HT := Lib.hid ht
        clear h ih
        rw [show Tr.nil.top = 0 from rfl]
        go_enter Try.func55, Try.ntmps55
        go_wp2
        go_ret
        exact ⟨bs, .node l a r, rfl, H.out, Agree.refl _ _, HT.out, by simp [Tr.flat], Upd.refl _ _⟩
      | node l2 a2 r2 =>
        have hap2 := hu.top_pos
        have haz2 : ((a2 : Int) == 0) = false := by rw [beq_eq_false_iff_ne]; omega
        rw [show (Tr.node l2 a2 r2).top = a2 from rfl]
        have hbl := h.bl
        have hn2 := h.n2
        rw [hbl] at hap hap2
        have hani : (a : Int) < (ws.length : Int) := by omega
        have hani2 : (a2 : Int) < (ws.length : Int) := by omega
        have HT := Lib.hid ht
        have HU := Lib.hid hu
        have HN := Lib.hid hn
        obtain ⟨h0, ⟨x, hx, hlf, hrt⟩, htl, htr⟩ := ht
        obtain ⟨h02, ⟨x2, hx2, hlf2, hrt2⟩, htl2, htr2⟩ := hu
        have c1 := h.box1
        obtain ⟨k0, k1, k2⟩ := h.bk3 hx
        obtain ⟨k3, k4, k5⟩ := h.bk3 hx2
        rw [hrt] at k2
        rw [hlf2] at k4
        obtain ⟨l1, l2', l3⟩ := h.lt
        have H := Lib.hid h
        obtain ⟨nn1, nn2, nn3⟩ := List.nodup_append.1 hn
        obtain ⟨n1, n2, n3, n4, n5⟩ := node_nodup nn1
        obtain ⟨m1, m2, m3, m4, m5⟩ := node_nodup nn2
        have HI1 := Lib.hid (ih r (.node l2 a2 r2) bs w (by simp only [Tr.size] at hm ⊢; omega) h htr HU.out (by
          refine List.nodup_append.2 ⟨n2, nn2, fun y hy z hz => nn3 y (by simp [Tr.flat, hy]) z hz⟩))
        have HI2 := Lib.hid (ih (.node l a r) l2 bs w (by simp only [Tr.size] at hm ⊢; omega) h HT.out htl2 (by
          refine List.nodup_append.2 ⟨nn1, m1, fun y hy z hz => nn3 y hy z (by simp [Tr.flat, hz])⟩))
        have HX1 := Lib.hid hx
        have HX2 := Lib.hid hx2
        have HLF := Lib.hid hlf
        have HRT2 := Lib.hid hrt2
        have TL1 := Lib.hid htl
        have TR2 := Lib.hid htr2
        clear h ih hx hx2 hlf hrt hlf2 hrt2 htl htr htl2 htr2 hm hn nn1 nn2 n1 n2 m1 m2 HT HU HN hbl
        rw [show (Tr.node l2 a2 r2).top = a2 from rfl] at HI1
        rw [show (Tr.node l a r).top = a from rfl] at HI2
        go_enter Try.func55, Try.ntmps55
        go_wp2_with fail
        refine (rank_any a (by omega) _).mono ?_
        rintro e w' ⟨r1, rfl, rfl⟩
        go_wp2_with fail
        refine (rank_any a2 (by omega) _).mono ?_
        rintro e w' ⟨r3, rfl, rfl⟩
        by_cases hc : r3 < r1
        · go_wp2_with fail
          refine (HI1.out).mono ?_
          rintro e w1 ⟨bs1, y, rfl, h1, ha1, ty, hy, hu⟩
          have hna : a ∉ r.flat ++ (Tr.node l2 a2 r2).flat := fun hz => by
            rcases List.mem_append.1 hz with hz | hz
            · exact n4 hz
            · exact nn3 a (by simp [Tr.flat]) a hz rfl
          have hnl : ∀ z ∈ l.flat, z ∉ r.flat ++ (Tr.node l2 a2 r2).flat := fun z hz hw => by
            rcases List.mem_append.1 hw with hw | hw
            · exact n5 z hz hw
            · exact nn3 z (by simp [Tr.flat, hz]) z hw rfl
          have hx1 : bs1[a]? = some x := (ha1.out a hna).trans HX1.out
          have hf1 := (h1.frozen (a * 3 + 2)).2.2
          clear k0 k1 k2 k3 k4 k5 c1 l1 l2' l3
          obtain ⟨k0, k1, k2⟩ := h1.bk3 hx1
          obtain ⟨l1, l2', l3⟩ := h1.lt
          have c1 := h1.box1
          have H1 := Lib.hid h1
          have A1 := Lib.hid ha1
          have TY := Lib.hid ty
          have FY := Lib.hid hy
          have U1 := Lib.hid hu
          have HX1 := Lib.hid hx1
          have HNA := Lib.hid hna
          have HNL := Lib.hid hnl
          clear h1 ha1 ty hy hu hx1 hna hnl
          go_wp2
          go_ret
          refine ⟨bs1.set a ⟨x.ah, x.lf, y.top⟩, .node l a y, rfl, H1.out.set_rt3 HX1.out _, ?_, ?_, ?_, U1.out.trans (Upd.set (by simp))⟩
          · exact (A1.out.mono fun z hz => by
              rcases List.mem_append.1 hz with hz | hz
              · exact List.mem_append_left _ (by simp [Tr.flat, hz])
              · exact List.mem_append_right _ hz).trans (Agree.set (by simp [Tr.flat]) HX1.out rfl)
          · exact link_right (TL1.out.agree A1.out HNL.out) TY.out HX1.out HLF.out h0 n3 (by rw [FY.out]; exact HNA.out)
          · simp only [Tr.flat, FY.out, List.append_assoc, List.cons_append]
        · go_wp2_with fail
          refine (HI2.out).mono ?_
          rintro e w1 ⟨bs1, y, rfl, h1, ha1, ty, hy, hu⟩
          have hna : a2 ∉ (Tr.node l a r).flat ++ l2.flat := fun hz => by
            rcases List.mem_append.1 hz with hz | hz
            · exact nn3 a2 hz a2 (by simp [Tr.flat]) rfl
            · exact m3 hz
          have hnl : ∀ z ∈ r2.flat, z ∉ (Tr.node l a r).flat ++ l2.flat := fun z hz hw => by
            rcases List.mem_append.1 hw with hw | hw
            · exact nn3 z hw z (by simp [Tr.flat, hz]) rfl
            · exact m5 z hw hz
          have hx1 : bs1[a2]? = some x2 := (ha1.out a2 hna).trans HX2.out
          have hf1 := (h1.frozen (a2 * 3 + 1)).2.2
          clear k0 k1 k2 k3 k4 k5 c1 l1 l2' l3
          obtain ⟨k0, k1, k2⟩ := h1.bk3 hx1
          obtain ⟨l1, l2', l3⟩ := h1.lt
          have c1 := h1.box1
          have H1 := Lib.hid h1
          have A1 := Lib.hid ha1
          have TY := Lib.hid ty
          have FY := Lib.hid hy
          have U1 := Lib.hid hu
          have HX1 := Lib.hid hx1
          have HNA := Lib.hid hna
          have HNL := Lib.hid hnl
          clear h1 ha1 ty hy hu hx1 hna hnl
          go_wp2
          go_ret
          refine ⟨bs1.set a2 ⟨x2.ah, y.top, x2.rt⟩, .node y a2 r2, rfl, H1.out.set_lf3 HX1.out _, ?_, ?_, ?_, U1.out.trans (Upd.set (by simp))⟩
          · exact (A1.out.mono fun z hz => by
              rcases List.mem_append.1 hz with hz | hz
              · exact List.mem_append_left _ hz
              · exact List.mem_append_right _ (by simp [Tr.flat, hz])).trans (Agree.set (by simp [Tr.flat]) HX1.out rfl)
          · exact link_left (TR2.out.agree A1.out HNL.out) TY.out HX1.out HRT2.out h02 m4 (by rw [FY.out]; exact HNA.out)
          · simp only [Tr.flat, FY.out, List.append_assoc, List.cons_append]
theorem drewN_two (w : World) (a b : Nat) : (w.drewN a).drewN b = w.drewN (a + b) := by simp [World.drewN, Nat.add_assoc]
/-- The first of a list in order whose key is not below k. -/
theorem first_spec {key : Nat → Int} {k : Int} : ∀ {l : List Nat}, Sorted key l → (∀ a ∈ l, 0 < a) → (firstL key k l = 0 ∧ ∀ a ∈ l, key a < k) ∨ (firstL key k l ∈ l ∧ k ≤ key (firstL key k l) ∧ ∀ a ∈ l, k ≤ key a → key (firstL key k l) ≤ key a)
  | [], _, _ => .inl ⟨rfl, fun a h => by simp at h⟩
  | x :: l, hs, hp => by
    unfold Sorted at hs
    obtain ⟨h1, h2⟩ := List.pairwise_cons.1 hs
    by_cases hk : k ≤ key x
    · right
      have e : firstL key k (x :: l) = x := by unfold firstL; rw [List.find?_cons, decide_eq_true hk]; rfl
      rw [e]
      refine ⟨List.mem_cons_self .., hk, fun a ha _ => ?_⟩
      rcases List.mem_cons.1 ha with rfl | ha
      · exact Int.le_refl _
      · exact Int.le_of_lt (h1 a ha)
    · have e : firstL key k (x :: l) = firstL key k l := by unfold firstL; rw [List.find?_cons, decide_eq_false hk]
      rw [e]
      rcases first_spec h2 (fun a ha => hp a (List.mem_cons_of_mem _ ha)) with ⟨h3, h4⟩ | ⟨h3, h4, h5⟩
      · left
        refine ⟨h3, fun a ha => ?_⟩
        rcases List.mem_cons.1 ha with rfl | ha
        · omega
        · exact h4 a ha
      · right
        refine ⟨List.mem_cons_of_mem _ h3, h4, fun a ha hka => ?_⟩
        rcases List.mem_cons.1 ha with rfl | ha
        · exact absurd hka hk
        · exact h5 a ha hka
theorem Tr.size_pos {l r : Tr} {a : Nat} : (Tr.node l a r).size = l.size + r.size + 1 := rfl
set_option maxRecDepth 1000000 in
set_option maxHeartbeats 6400000 in
theorem first_any (q p b : Nat) (ws : List Int) (bs : List Bk) (fr : List Nat) (k : Int) (t : Tr) (w : World) (h : AB q p b ws bs fr w) (ht : IsT bs t) (hs : Sorted (keyW ws) t.flat) (hh : Heads ws t.flat) :
    Calls Try.prog 51 #[.pointer (some ⟨q, 0, none⟩), .int .i64 (t.top : Int), .int .i64 k] w fun e w' => e = .returned (.int .i64 (firstL (keyW ws) k t.flat : Int)) ∧ ∃ n, w' = w.drewN n := by
  have HR := Lib.hid (show (t.flat.find? fun a => decide (k ≤ keyW ws a)).getD 0 = firstL (keyW ws) k t.flat from rfl)
  generalize firstL (keyW ws) k t.flat = R at *
  have H := Lib.hid h
  have HT := Lib.hid ht
  have HS := Lib.hid hs
  have HH := Lib.hid hh
  clear h ht hs hh
  generalize htop : (t.top : Int) = z
  have HZ := Lib.hid htop
  clear htop
  go_enter Try.func51, Try.ntmps51
  go_wp2
  go_loopg [1, 7] t.size (fun g tv fv wx => ∃ (u : Tr) (f : Nat), u.size = g ∧ IsT bs u ∧ Sorted (keyW ws) u.flat ∧ Heads ws u.flat ∧ tv = .int .i64 (u.top : Int) ∧ fv = .int .i64 (f : Int) ∧ (u.flat.find? fun a => decide (k ≤ keyW ws a)).getD f = R ∧ AB q p b ws bs fr wx ∧ ∃ n, wx = w.drewN n)
  case atStart => exact ⟨t, 0, rfl, HT.out, HS.out, HH.out, by rw [HZ.out], rfl, HR.out, H.out, 0, rfl⟩
  case round =>
    obtain ⟨u, f, hg, hu, hus, huh, rfl, rfl, hf, hab, hup⟩ := hrel
    cases u with
    | nil =>
      have hfR : f = R := hf
      subst hfR
      have HAB := Lib.hid hab
      have HUP := Lib.hid hup
      clear hab hup hf
      rw [show Tr.nil.top = 0 from rfl]
      go_wp2
      go_ret
      exact ⟨rfl, HUP.out⟩
    | node l a r =>
      obtain ⟨h0, ⟨x, hx, hlf, hrt⟩, htl, htr⟩ := hu
      obtain ⟨v, hv, hv0, hv1⟩ := huh a (by simp [Tr.flat])
      have hl : ∀ y ∈ l.flat, y ∈ (Tr.node l a r).flat := fun y hy => by simp [Tr.flat, hy]
      have hr : ∀ y ∈ r.flat, y ∈ (Tr.node l a r).flat := fun y hy => by simp [Tr.flat, hy]
      have han : a < ws.length := (List.getElem?_eq_some_iff.1 hv).1
      have hani : (a : Int) < (ws.length : Int) := by omega
      have haz : ((a : Int) == 0) = false := by rw [beq_eq_false_iff_ne]; omega
      have haz2 : ((a : Int) != 0) = true := by rw [bne, haz]; rfl
      have c1 := hab.box1
      obtain ⟨k0, k1, k2⟩ := hab.bk3 hx
      rw [hlf] at k1
      rw [hrt] at k2
      obtain ⟨l1, l2, l3⟩ := hab.lt
      have HAB := Lib.hid hab
      have HUP := Lib.hid hup
      have HK := Lib.hid (key_any hab a v hv hv0 hv1)
      have TL := Lib.hid htl
      have TR := Lib.hid htr
      have HLH := Lib.hid (huh.sub hl)
      have HRH := Lib.hid (huh.sub hr)
      have HSL := Lib.hid hus.left
      have HSR := Lib.hid hus.right
      have HF := Lib.hid hf
      rw [show (Tr.node l a r).top = a from rfl]
      have hsz : l.size + r.size + 1 = gk := hg
      have HSZ := Lib.hid hsz
      by_cases hk : keyW ws a < k
      · have HN := Lib.hid (show (r.flat.find? fun a => decide (k ≤ keyW ws a)).getD f = R by rw [← first_right hus hk]; exact hf)
        have hgg : r.size < gk := by omega
        have HKK := Lib.hid (show keyW ws a = keyW ws a from rfl)
        generalize hKa : keyW ws a = K at hk HK
        clear hab hup htl htr hus huh hv hx hlf hrt hf hg hsz hKa
        go_wp2_with fail
        refine (HK.out).mono ?_
        rintro e w' ⟨rfl, rfl⟩
        go_wp2
        go_roundg r.size
        case measure => exact hgg
        case rel => exact ⟨r, f, rfl, TR.out, HSR.out, HRH.out, rfl, rfl, HN.out, HAB.out, HUP.out⟩
      · have HN := Lib.hid (show (l.flat.find? fun a => decide (k ≤ keyW ws a)).getD a = R by
          rw [first_left hk] at hf
          cases hc : l.flat.find? fun a => decide (k ≤ keyW ws a) with
          | none => rw [hc] at hf; exact hf
          | some y => rw [hc] at hf; exact hf)
        have hgg : l.size < gk := by omega
        generalize hKa : keyW ws a = K at hk HK
        clear hab hup htl htr hus huh hv hx hlf hrt hf hg hsz hKa
        go_wp2_with fail
        refine (HK.out).mono ?_
        rintro e w' ⟨rfl, rfl⟩
        go_wp2
        go_quiet (fail)
        go_wp2
        go_roundg l.size
        case measure => exact hgg
        case rel => exact ⟨l, a, rfl, TL.out, HSL.out, HLH.out, rfl, rfl, HN.out, HAB.out.drewN _, by obtain ⟨n, hn⟩ := HUP.out; exact ⟨_, by rw [hn, drewN_two]⟩⟩
end Go.Proofs.Ytmgpimibnogcaaa
