/-
  WALK of RefmapJoins.
-/
import Derived.Test.YtgepgbpjdjbelaaRo
set_option linter.unusedVariables false
set_option linter.unusedSimpArgs false
namespace Go.Proofs.Ytgepgbpjdjbelaa
open Go.RowKit

theorem row_news {B size : Nat} {w : World} {A : Option Addr} {n c : Nat} {xs : List Value} (h : Row B size w (.slice A n c) n xs) : xs.length = n * size ∧ (A = Option.none → n = 0) ∧ ∀ ad, A = some ad → ∀ j u, xs[j]? = some u → w.cell? (ad.add j) = some u := by
  obtain ⟨A', c', e, _, _, h1, h2⟩ := h
  injection e with e1 e2 e3
  subst e1
  refine ⟨h1, fun hn => ?_, fun ad ha j u hu => ?_⟩
  · apply Classical.byContradiction
    intro h0
    obtain ⟨b, o, e, _⟩ := h2 (by omega)
    rw [hn] at e
    cases e
  · have hl := (List.getElem?_eq_some_iff.1 hu).1
    have hn : 0 < n := by
      rcases Nat.eq_zero_or_pos n with h0 | h0
      · rw [h0, Nat.zero_mul] at h1
        omega
      · exact h0
    obtain ⟨b, o, e, _, hc⟩ := h2 hn
    rw [ha] at e
    injection e with e
    subst e
    rw [plain_add]
    exact hc j u hu
theorem L_cat (a b : ByteArray) : L (a ++ b) = L a ++ L b := by simp [L, ByteArray.data_append]
theorem pk_app {la lb : List MP} (h : pkE (la ++ lb) = 0) : pkE la = 0 ∧ pkE lb = 0 := by
  obtain ⟨h1, h2⟩ := pkE_ok.1 h
  rw [List.length_append] at h1
  exact ⟨pkE_ok.2 ⟨by omega, fun m hm => h2 m (List.mem_append_left _ hm)⟩, pkE_ok.2 ⟨by omega, fun m hm => h2 m (List.mem_append_right _ hm)⟩⟩
theorem pk_join {la lb : List MP} (h1 : pkE la = 0) (h2 : pkE lb = 0) (h : la.length + lb.length ≤ 4096) : pkE (la ++ lb) = 0 ∧ pkS (la ++ lb) = hd2 (la.length + lb.length) ++ ((pkS la).drop 2 ++ (pkS lb).drop 2) := by
  obtain ⟨_, a2⟩ := pkE_ok.1 h1
  obtain ⟨_, b2⟩ := pkE_ok.1 h2
  have e : pkE (la ++ lb) = 0 := pkE_ok.2 ⟨by rw [List.length_append]; exact h, fun m hm => by
    rcases List.mem_append.1 hm with hm | hm
    · exact a2 m hm
    · exact b2 m hm⟩
  refine ⟨e, ?_⟩
  have d : ∀ l : List MP, pkE l = 0 → (pkS l).drop 2 = packL l := fun l hl => by
    unfold pkS
    rw [if_pos hl]
    rfl
  rw [d la h1, d lb h2, ← packL_app]
  unfold pkS
  rw [if_pos e, List.length_append]
theorem pkS_no {l : List MP} (h : pkE l ≠ 0) : pkS l = [] := by
  unfold pkS
  rw [if_neg h]
theorem flat_one (ps : List (Value × Value)) (h : ∀ p ∈ ps, p.1.oneCell' = true ∧ p.2.oneCell' = true) : ∀ u ∈ ps.flatMap mcells, u.oneCell' = true := by
  intro u hu
  obtain ⟨p, hp, hm⟩ := List.mem_flatMap.1 hu
  obtain ⟨h1, h2⟩ := h p hp
  unfold mcells at hm
  rcases List.mem_cons.1 hm with rfl | hm
  · exact h1
  · rw [List.mem_singleton.1 hm]
    exact h2
theorem msub_one {B : Nat} {w : World} {l : List MP} {ps : List (Value × Value)} (h : MSub (BRow B w) l ps) : ∀ u ∈ ps.flatMap mcells, u.oneCell' = true := flat_one ps fun p hp => by
  obtain ⟨k, hk, rfl⟩ := List.getElem_of_mem hp
  have hx : l[k]? = some (l[k]'(by rw [← h.1]; exact hk)) := List.getElem?_eq_getElem _
  obtain ⟨a, b⟩ := h.2 k _ _ hx (List.getElem?_eq_getElem hk)
  obtain ⟨_, _, e1, _⟩ := a
  obtain ⟨_, _, e2, _⟩ := b
  rw [e1, e2]
  exact ⟨rfl, rfl⟩
theorem MSub.app {R : Value → List Bool → Prop} {la lb : List MP} {pa pb : List (Value × Value)} (ha : MSub R la pa) (hb : MSub R lb pb) : MSub R (la ++ lb) (pa ++ pb) := by
  refine ⟨by rw [List.length_append, List.length_append, ha.1, hb.1], fun i x p hx hp => ?_⟩
  by_cases hi : i < la.length
  · rw [List.getElem?_append_left hi] at hx
    rw [List.getElem?_append_left (by rw [ha.1]; exact hi)] at hp
    exact ha.2 i x p hx hp
  · rw [List.getElem?_append_right (by omega)] at hx
    rw [List.getElem?_append_right (by rw [ha.1]; omega), ha.1] at hp
    exact hb.2 _ x p hx hp
set_option maxRecDepth 1000000 in
set_option maxHeartbeats 6400000 in
theorem joins_any (rows : List (List Bool)) (locs : List Int) (more : List (List Bool)) (vr vl vm : Value) (B : Nat) (w : World) (hr : BBRow B w vr rows) (hl : IRow B w vl locs) (hm : BBRow B w vm more) (hz : ∀ c ∈ locs, -9223372036854775808 ≤ c ∧ c ≤ 9223372036854775807) (hB : B ≤ w.heap.size) :
    Calls Try.prog 6 #[vr, vl, vm] w fun e w' => e = .returned (.bool true) ∧ Below w.heap.size w w' := by
  obtain ⟨A, c, rfl, _, _⟩ := hr.form
  obtain ⟨A2, c2, rfl, _, _⟩ := hl.form
  obtain ⟨A3, c3, rfl, _, _⟩ := hm.form
  obtain ⟨i27, hi27, hz27, hs27, hb27⟩ := info_parts info27
  have HR := Lib.hid hr
  have HL := Lib.hid hl
  have HM := Lib.hid hm
  have HZ := Lib.hid hz
  clear hr hl hm hz
  go_enter Try.func6, Try.ntmps6
  go_wp2_with fail
  refine (shown_any _).mono ?_
  rintro e w1 ⟨rfl, b1⟩
  have HR1 := Lib.hid (HR.out.below b1 hB)
  have HL1 := Lib.hid (HL.out.below b1 hB)
  have HM1 := Lib.hid (HM.out.below b1 hB)
  have B1 := Lib.hid b1
  have hz1 := b1.size
  clear b1 HR HL HM
  go_wp2_with fail
  refine (maps_any rows locs _ _ B w1 HR1.out HL1.out HZ.out (by omega)).mono ?_
  rintro e w2 ⟨va, vb, rfl, ha, _, b2⟩
  obtain ⟨la, hla⟩ : ∃ l, mkM rows locs (min rows.length 5000) = l := ⟨_, rfl⟩
  have hlal : la.length ≤ 5000 := by rw [← hla, mkM_len]; omega
  rw [hla] at ha
  have HA := Lib.hid ha
  have B2 := Lib.hid (Below.link' B1.out b2)
  have HL2 := Lib.hid (HL1.out.below b2 (by omega))
  have HM2 := Lib.hid (HM1.out.below b2 (by omega))
  have hz2 := b2.size
  obtain ⟨Aa, ca, rfl, _, _⟩ := ha.form
  clear ha b2 B1 HR1 HL1 HM1 hla
  go_wp2_with fail
  refine (maps_any more locs _ _ B w2 HM2.out HL2.out HZ.out (by omega)).mono ?_
  rintro e w3 ⟨vc, vd, rfl, hc, _, b3⟩
  obtain ⟨lb, hlb⟩ : ∃ l, mkM more locs (min more.length 5000) = l := ⟨_, rfl⟩
  have hlbl : lb.length ≤ 5000 := by rw [← hlb, mkM_len]; omega
  rw [hlb] at hc
  have HC := Lib.hid hc
  have HA3 := Lib.hid ((HA.out.below b3 (Nat.le_refl _)).more b3.size)
  have B3 := Lib.hid (Below.link' B2.out b3)
  obtain ⟨Ac, cc, rfl, _, _⟩ := hc.form
  clear hc b3 B2 HL2 HM2 hlb HA
  go_wp2_with fail
  refine (Pack_any la _ _ w3 HA3.out (Nat.le_refl _)).mono ?_
  rintro e w4 ⟨rfl, b4⟩
  have HX := Lib.hid (L_mk (pkS la))
  obtain ⟨X, hX⟩ : ∃ X : ByteArray, ⟨(pkS la).toArray⟩ = X := ⟨_, rfl⟩
  rw [hX] at HX ⊢
  have HA4 := Lib.hid ((HA3.out.below b4 (Nat.le_refl _)).more b4.size)
  have HC4 := Lib.hid ((HC.out.below b4 (Nat.le_refl _)).more b4.size)
  have B4 := Lib.hid (Below.link' B3.out b4)
  clear b4 HA3 HC B3 hX
  go_wp2_with fail
  refine (Pack_any lb _ _ w4 HC4.out (Nat.le_refl _)).mono ?_
  rintro e w5 ⟨rfl, b5⟩
  have HY := Lib.hid (L_mk (pkS lb))
  obtain ⟨Y, hY⟩ : ∃ Y : ByteArray, ⟨(pkS lb).toArray⟩ = Y := ⟨_, rfl⟩
  rw [hY] at HY ⊢
  obtain ⟨pa, sa, ra⟩ := (HA4.out.below b5 (Nat.le_refl _)).more b5.size
  obtain ⟨pb, sb, rb⟩ := (HC4.out.below b5 (Nat.le_refl _)).more b5.size
  have B5 := Lib.hid (Below.link' B4.out b5)
  have SA := Lib.hid sa
  have SB := Lib.hid sb
  have RA := Lib.hid ra
  have RB := Lib.hid rb
  obtain ⟨ke, hke⟩ : ∃ k, pkE la = k := ⟨_, rfl⟩
  obtain ⟨kf, hkf⟩ : ∃ k, pkE lb = k := ⟨_, rfl⟩
  rw [hke, hkf]
  have HKE := Lib.hid hke
  have HKF := Lib.hid hkf
  clear b5 HA4 HC4 B4 hY sa sb ra rb hke hkf
  have hbe : Below w5.heap.size w5 (w5.alloc (.cells #[] 27)) := (Below.refl _ w5).alloc (Nat.le_refl _) _
  have E0 := Lib.hid (show (w5.alloc (.cells #[] 27)).ownsRow w5.heap.size 27 2 (.slice (some ⟨w5.heap.size, 0, none⟩) 0 0) 0 [] from own_new (size := 2) (cs := []) (heap_new w5 _) (Nat.le_refl _) rfl (by unfold maxLen; omega))
  obtain ⟨na1, na2, na3⟩ := row_news (RA.out.keep (w' := w5.alloc (.cells #[] 27)) (fun p hp => World.cell?_alloc_lt w5 _ p hp))
  have NA1 := Lib.hid na1
  have NA2 := Lib.hid na2
  have NA3 := Lib.hid na3
  have UA := Lib.hid (msub_one SA.out)
  have UB := Lib.hid (msub_one SB.out)
  clear na1 na2 na3 hbe
  go_wp2_with (at_builtin; refine wpList_append_own_src rfl (.tmp 45) (.tmp 46) 35 rfl w5.heap.size 27 i27 (.agg #[.slice none 0 0, .slice none 0 0]) 2 48 und35 hi27 hz27 hs27 hb27 rfl (by decide) (.slice (some ⟨w5.heap.size, 0, none⟩) 0 0) 0 [] rfl E0.out Aa la.length ca (pa.flatMap mcells) rfl ?a1 ?b1 ?c1 ?d1 ?e1 ?f1 ?g1 ?_)
  case a1 => exact NA1.out
  case b1 => exact NA2.out
  case c1 => exact NA3.out
  case d1 => exact UA.out
  case e1 => unfold maxLen; omega
  case f1 => omega
  case g1 => simp
  intro v6 w6 own6 hg6
  have b6 : Below w5.heap.size w5 w6 := ((Below.refl _ w5).alloc (Nat.le_refl _) _).trans (own_grown E0.out (by simp) hg6).below
  obtain ⟨nb1, nb2, nb3⟩ := row_news (RB.out.keep (w' := w6) (fun p hp => b6.cell hp))
  have NB1 := Lib.hid nb1
  have NB2 := Lib.hid nb2
  have NB3 := Lib.hid nb3
  have B6 := Lib.hid b6
  have O6 := Lib.hid own6
  have hz6 := b6.size
  obtain ⟨g6, d6, rfl⟩ := own_form own6
  clear nb1 nb2 nb3 b6 own6 hg6
  go_wp2_with (at_builtin; refine wpList_append_own_src rfl (.tmp 47) (.tmp 48) 35 rfl w5.heap.size 27 i27 (.agg #[.slice none 0 0, .slice none 0 0]) 2 48 und35 hi27 hz27 hs27 hb27 rfl (by decide) (.slice g6 la.length d6) la.length (pa.flatMap mcells) ?h2 O6.out Ac lb.length cc (pb.flatMap mcells) rfl ?a2 ?b2 ?c2 ?d2 ?e2 ?f2 ?g2 ?_)
  case h2 => rfl
  case a2 => exact NB1.out
  case b2 => exact NB2.out
  case c2 => exact NB3.out
  case d2 => exact UB.out
  case e2 => unfold maxLen; omega
  case f2 => omega
  case g2 => exact hz6
  intro v7 w7 own7 hg7
  have b7 : Below w5.heap.size w5 w7 := B6.out.trans (own_grown O6.out hz6 hg7).below
  have hz7 := b7.size
  have HM7 := Lib.hid (show MRow w7.heap.size w7 v7 (la ++ lb) from ⟨pa ++ pb, (MSub.app SA.out SB.out).imp (fun v l h => (h.below b7 (Nat.le_refl _)).more hz7), by
    rw [List.length_append, List.flatMap_append]
    exact Row.of_own own7⟩)
  have B7 := Lib.hid (Below.link' B5.out b7)
  clear b7 own7 hg7 B6 O6 NB1 NB2 NB3 NA1 NA2 NA3 UA UB E0 RA RB SA SB
  go_wp2_with fail
  refine (Pack_any (la ++ lb) _ _ w7 HM7.out (Nat.le_refl _)).mono ?_
  rintro e w8 ⟨rfl, b8⟩
  have HZ8 := Lib.hid (L_mk (pkS (la ++ lb)))
  obtain ⟨Z, hZ⟩ : ∃ Z : ByteArray, ⟨(pkS (la ++ lb)).toArray⟩ = Z := ⟨_, rfl⟩
  rw [hZ] at HZ8 ⊢
  obtain ⟨kg, hkg⟩ : ∃ k, pkE (la ++ lb) = k := ⟨_, rfl⟩
  rw [hkg]
  have HKG := Lib.hid hkg
  have B8 := Lib.hid (Below.link' B7.out b8)
  clear b8 B7 HM7 hZ hkg
  have hlaI : (la.length : Int) ≤ 5000 := by omega
  have hlbI : (lb.length : Int) ≤ 5000 := by omega
  by_cases hef : ke = 0 ∧ kf = 0 ∧ la.length + lb.length ≤ 4096
  · obtain ⟨h1, h2, h3⟩ := hef
    obtain ⟨j1, j2⟩ := pk_join (HKE.out.trans h1) (HKF.out.trans h2) h3
    have hg0 : kg = 0 := by rw [← HKG.out]; exact j1
    subst h1; subst h2; subst hg0
    obtain ⟨n, hn⟩ : ∃ n, la.length + lb.length = n := ⟨_, rfl⟩
    rw [hn] at j2
    have hsum : (la.length : Int) + (lb.length : Int) = (n : Int) := by omega
    have hn4 : n ≤ 4096 := by omega
    have hn4I : (n : Int) ≤ 4096 := by omega
    have hwn : IntKind.i64.wrap (n : Int) = (n : Int) := IntWalk.i64_in _ (by omega)
    have hq8 : IntKind.u8.wrap ((n : Int) / 256) = (n : Int) / 256 := by
      show ((n : Int) / 256) % (2 ^ IntKind.u8.bits) = _
      exact Int.emod_eq_of_lt (by omega) (by show _ < (256 : Int); omega)
    have hwq : IntKind.i64.wrap ((n : Int) / 256) = (n : Int) / 256 := IntWalk.i64_in _ (by omega)
    have htm : IntKind.u8.wrap ((n : Int).tmod 256) = (n : Int) % 256 := by
      rw [Int.tmod_eq_emod_of_nonneg (by omega)]
      show ((n : Int) % 256) % (2 ^ IntKind.u8.bits) = _
      exact Int.emod_eq_of_lt (by omega) (by show _ < (256 : Int); omega)
    have HU := Lib.hid (show ucells (hd2 n) = [.int .u8 ((n : Int) / 256), .int .u8 ((n : Int) % 256)] by
      unfold ucells hd2
      simp only [List.map_cons, List.map_nil, UInt8.toNat_ofNat', List.cons.injEq, Value.int.injEq, true_and, and_true]
      constructor <;> omega)
    have hx2 : 2 ≤ X.size := by
      have := pkS_pos (HKE.out.trans rfl)
      rw [← HX.out, ← size_L] at this
      exact this
    have hy2 : 2 ≤ Y.size := by
      have := pkS_pos (HKF.out.trans rfl)
      rw [← HY.out, ← size_L] at this
      exact this
    have hsz : ∀ l : List MP, pkE l = 0 → (pkS l).length ≤ 100000 := fun l hl => by
      obtain ⟨h2, h3⟩ := pkE_ok.1 hl
      have h4 := packL_len h3
      have h5 : pkS l = hd2 l.length ++ packL l := by unfold pkS; rw [if_pos hl]
      rw [h5, List.length_append]
      have h6 : (hd2 l.length).length = 2 := rfl
      omega
    have hxl : X.size ≤ 100000 := by rw [size_L, HX.out]; exact hsz la HKE.out
    have hyl : Y.size ≤ 100000 := by rw [size_L, HY.out]; exact hsz lb HKF.out
    have hh2 : (hd2 n).length = 2 := rfl
    have hcat1 : ¬ 9223372036854775807 < (hd2 n).length + (X.size - 2) := by omega
    have hcat2 : ¬ 9223372036854775807 < (hd2 n).length + (X.size - 2) + (Y.size - 2) := by omega
    clear hsz hh2
    have hx2I : (2 : Int) ≤ (X.size : Int) := by omega
    have hy2I : (2 : Int) ≤ (Y.size : Int) := by omega
    have J2 := Lib.hid j2
    have HEQ := Lib.hid (show (Z.toList == ((⟨(hd2 n).toArray⟩ : ByteArray) ++ X.extract 2 X.size ++ Y.extract 2 Y.size).toList) = true by
      rw [beq_iff_eq, toList_data, toList_data, L_cat, L_cat, L_mk (hd2 n), L_from, L_from, HX.out, HY.out, HZ8.out, j2, List.append_assoc])
    clear j1 j2 hn h3
    go_upto_region 12 with fail
    have B8d := B8.out.drew
    have T0 := B8d
    refine wp_region_held_drew (S := fun U => Below w.heap.size w U) (by kernel_rfl) T0 (fun hS0 => ?_)
    refine wpAnyH_take (i := 0) (oi := ({ dst := some 85, op := Op.move (Operand.tmp 7), type := 4, pos := "more.go:23", after := #[], guard := none } : Oper)) (v := ?av901) rfl (by kernel_rfl) (by kernel_rfl) (by kernel_rfl) (fun _ _ _ h => h) (Or.inl ⟨by rfl, ?ay901⟩) T0 ?_
    case ay901 => (intro V hSw; go_simp; try with_reducible rfl)
    try simp only [Act.put, List.setIfInBounds_toArray, List.set_cons_zero, List.set_cons_succ]
    refine wpAnyH_take (i := 1) (oi := ({ dst := some 86, op := Op.move (Operand.tmp 85), type := 4, pos := "more.go:23", after := #[{ on := 0, ground := Ground.data }], guard := none } : Oper)) (v := ?av902) rfl (by kernel_rfl) (by kernel_rfl) (by kernel_rfl) (fun _ _ _ h => h) (Or.inl ⟨by rfl, ?ay902⟩) T0 ?_
    case ay902 => (intro V hSw; go_simp; try with_reducible rfl)
    try simp only [Act.put, List.setIfInBounds_toArray, List.set_cons_zero, List.set_cons_succ]
    refine wpAnyH_take (i := 2) (oi := ({ dst := some 87, op := Op.move (Operand.tmp 17), type := 47, pos := "more.go:23", after := #[{ on := 1, ground := Ground.guard }], guard := some (1, true) } : Oper)) (v := ?av903) rfl (by kernel_rfl) (by kernel_rfl) (by kernel_rfl) (fun _ _ _ h => h) (Or.inl ⟨by rfl, ?ay903⟩) T0 ?_
    case ay903 => (intro V hSw; go_simp; try with_reducible rfl)
    try simp only [Act.put, List.setIfInBounds_toArray, List.set_cons_zero, List.set_cons_succ]
    refine wpAnyH_take (i := 3) (oi := ({ dst := some 88, op := Op.binOp BinOp.eql 47 (Operand.tmp 87) (Operand.const (Value.int IntKind.i64 0)) 47, type := 4, pos := "more.go:23", after := #[{ on := 2, ground := Ground.data }, { on := 1, ground := Ground.guard }], guard := some (1, true) } : Oper)) (v := ?av904) rfl (by kernel_rfl) (by kernel_rfl) (by kernel_rfl) (fun _ _ _ h => h) (Or.inl ⟨by rfl, ?ay904⟩) T0 ?_
    case ay904 => (intro V hSw; go_simp; try with_reducible rfl)
    try simp only [Act.put, List.setIfInBounds_toArray, List.set_cons_zero, List.set_cons_succ]
    refine wpAnyH_take (i := 4) (oi := ({ dst := some 89, op := Op.pick (Operand.tmp 86) (Operand.tmp 88) (Operand.const (Value.bool false)), type := 4, pos := "more.go:23", after := #[{ on := 1, ground := Ground.data }, { on := 3, ground := Ground.data }], guard := none } : Oper)) (v := ?av905) rfl (by kernel_rfl) (by kernel_rfl) (by kernel_rfl) (fun _ _ _ h => h) (Or.inl ⟨by rfl, ?ay905⟩) T0 ?_
    case ay905 => (intro V hSw; go_simp; try with_reducible rfl)
    try simp only [Act.put, List.setIfInBounds_toArray, List.set_cons_zero, List.set_cons_succ]
    refine wpAnyH_take (i := 5) (oi := ({ dst := some 90, op := Op.move (Operand.tmp 89), type := 4, pos := "more.go:23", after := #[{ on := 4, ground := Ground.data }, { on := 1, ground := Ground.chain }], guard := none } : Oper)) (v := ?av906) rfl (by kernel_rfl) (by kernel_rfl) (by kernel_rfl) (fun _ _ _ h => h) (Or.inl ⟨by rfl, ?ay906⟩) T0 ?_
    case ay906 => (intro V hSw; go_simp; try with_reducible rfl)
    try simp only [Act.put, List.setIfInBounds_toArray, List.set_cons_zero, List.set_cons_succ]
    refine wpAnyH_take (i := 6) (oi := ({ dst := some 91, op := Op.move (Operand.tmp 16), type := 9, pos := "more.go:23", after := #[{ on := 5, ground := Ground.guard }], guard := some (5, true) } : Oper)) (v := ?av907) rfl (by kernel_rfl) (by kernel_rfl) (by kernel_rfl) (fun _ _ _ h => h) (Or.inl ⟨by rfl, ?ay907⟩) T0 ?_
    case ay907 => (intro V hSw; go_simp; try with_reducible rfl)
    try simp only [Act.put, List.setIfInBounds_toArray, List.set_cons_zero, List.set_cons_succ]
    refine wpAnyH_take (i := 7) (oi := ({ dst := some 92, op := Op.move (Operand.tmp 18), type := 3, pos := "more.go:23", after := #[{ on := 5, ground := Ground.guard }], guard := some (5, true) } : Oper)) (v := ?av908) rfl (by kernel_rfl) (by kernel_rfl) (by kernel_rfl) (fun _ _ _ h => h) (Or.inl ⟨by rfl, ?ay908⟩) T0 ?_
    case ay908 => (intro V hSw; go_simp; try with_reducible rfl)
    try simp only [Act.put, List.setIfInBounds_toArray, List.set_cons_zero, List.set_cons_succ]
    refine wpAnyH_take (i := 8) (oi := ({ dst := some 93, op := Op.binOp BinOp.quo 3 (Operand.tmp 92) (Operand.const (Value.int IntKind.i64 256)) 3, type := 3, pos := "more.go:23", after := #[{ on := 7, ground := Ground.data }, { on := 5, ground := Ground.guard }], guard := some (5, true) } : Oper)) (v := ?av909) rfl (by kernel_rfl) (by kernel_rfl) (by kernel_rfl) (fun _ _ _ h => h) (Or.inl ⟨by rfl, ?ay909⟩) T0 ?_
    case ay909 => (intro V hSw; go_simp; try with_reducible rfl)
    try simp only [Act.put, List.setIfInBounds_toArray, List.set_cons_zero, List.set_cons_succ]
    refine wpAnyH_take (i := 9) (oi := ({ dst := some 94, op := Op.convert 3 5 (Operand.tmp 93), type := 5, pos := "more.go:23", after := #[{ on := 8, ground := Ground.data }, { on := 5, ground := Ground.guard }], guard := some (5, true) } : Oper)) (v := ?av910) rfl (by kernel_rfl) (by kernel_rfl) (by kernel_rfl) (fun _ _ _ h => h) (Or.inl ⟨by rfl, ?ay910⟩) T0 ?_
    case ay910 => (intro V hSw; go_simp; try with_reducible rfl)
    try simp only [Act.put, List.setIfInBounds_toArray, List.set_cons_zero, List.set_cons_succ]
    refine wpAnyH_take (i := 10) (oi := ({ dst := some 95, op := Op.move (Operand.tmp 18), type := 3, pos := "more.go:23", after := #[{ on := 5, ground := Ground.guard }], guard := some (5, true) } : Oper)) (v := ?av911) rfl (by kernel_rfl) (by kernel_rfl) (by kernel_rfl) (fun _ _ _ h => h) (Or.inl ⟨by rfl, ?ay911⟩) T0 ?_
    case ay911 => (intro V hSw; go_simp; try with_reducible rfl)
    try simp only [Act.put, List.setIfInBounds_toArray, List.set_cons_zero, List.set_cons_succ]
    refine wpAnyH_take (i := 11) (oi := ({ dst := some 96, op := Op.binOp BinOp.rem 3 (Operand.tmp 95) (Operand.const (Value.int IntKind.i64 256)) 3, type := 3, pos := "more.go:23", after := #[{ on := 10, ground := Ground.data }, { on := 5, ground := Ground.guard }], guard := some (5, true) } : Oper)) (v := ?av912) rfl (by kernel_rfl) (by kernel_rfl) (by kernel_rfl) (fun _ _ _ h => h) (Or.inl ⟨by rfl, ?ay912⟩) T0 ?_
    case ay912 => (intro V hSw; go_simp; try with_reducible rfl)
    try simp only [Act.put, List.setIfInBounds_toArray, List.set_cons_zero, List.set_cons_succ]
    refine wpAnyH_take (i := 12) (oi := ({ dst := some 97, op := Op.convert 3 5 (Operand.tmp 96), type := 5, pos := "more.go:23", after := #[{ on := 11, ground := Ground.data }, { on := 5, ground := Ground.guard }], guard := some (5, true) } : Oper)) (v := ?av913) rfl (by kernel_rfl) (by kernel_rfl) (by kernel_rfl) (fun _ _ _ h => h) (Or.inl ⟨by rfl, ?ay913⟩) T0 ?_
    case ay913 => (intro V hSw; go_simp; try with_reducible rfl)
    try simp only [Act.put, List.setIfInBounds_toArray, List.set_cons_zero, List.set_cons_succ]
    refine wpAnyH_take (i := 15) (oi := ({ dst := some 100, op := Op.move (Operand.tmp 12), type := 9, pos := "more.go:23", after := #[{ on := 5, ground := Ground.guard }], guard := some (5, true) } : Oper)) (v := ?av914) rfl (by kernel_rfl) (by kernel_rfl) (by kernel_rfl) (fun _ _ _ h => h) (Or.inl ⟨by rfl, ?ay914⟩) T0 ?_
    case ay914 => (intro V hSw; go_simp; try with_reducible rfl)
    try simp only [Act.put, List.setIfInBounds_toArray, List.set_cons_zero, List.set_cons_succ]
    refine wpAnyH_take (i := 16) (oi := ({ dst := some 101, op := Op.slice 9 (Operand.tmp 100) (some (Operand.const (Value.int IntKind.i64 2))) none none, type := 9, pos := "more.go:23", after := #[{ on := 15, ground := Ground.data }, { on := 5, ground := Ground.guard }], guard := some (5, true) } : Oper)) (v := ?av915) rfl (by kernel_rfl) (by kernel_rfl) (by kernel_rfl) (fun _ _ _ h => h) (Or.inl ⟨by rfl, ?ay915⟩) T0 ?_
    case ay915 => (intro V hSw; go_simp; try with_reducible rfl)
    try simp only [Act.put, List.setIfInBounds_toArray, List.set_cons_zero, List.set_cons_succ]
    refine wpAnyH_take (i := 18) (oi := ({ dst := some 103, op := Op.move (Operand.tmp 14), type := 9, pos := "more.go:23", after := #[{ on := 5, ground := Ground.guard }], guard := some (5, true) } : Oper)) (v := ?av916) rfl (by kernel_rfl) (by kernel_rfl) (by kernel_rfl) (fun _ _ _ h => h) (Or.inl ⟨by rfl, ?ay916⟩) T0 ?_
    case ay916 => (intro V hSw; go_simp; try with_reducible rfl)
    try simp only [Act.put, List.setIfInBounds_toArray, List.set_cons_zero, List.set_cons_succ]
    refine wpAnyH_take (i := 19) (oi := ({ dst := some 104, op := Op.slice 9 (Operand.tmp 103) (some (Operand.const (Value.int IntKind.i64 2))) none none, type := 9, pos := "more.go:23", after := #[{ on := 18, ground := Ground.data }, { on := 5, ground := Ground.guard }], guard := some (5, true) } : Oper)) (v := ?av917) rfl (by kernel_rfl) (by kernel_rfl) (by kernel_rfl) (fun _ _ _ h => h) (Or.inl ⟨by rfl, ?ay917⟩) T0 ?_
    case ay917 => (intro V hSw; go_simp; try with_reducible rfl)
    try simp only [Act.put, List.setIfInBounds_toArray, List.set_cons_zero, List.set_cons_succ]
    refine wpAnyH_ready (rs := [13]) (by kernel_rfl) (by simp) ?_
    refine (AllReadyH.cons (o := _) rfl (fun K hK => ?_) AllReadyH.nil)
    go_simp
    have T918 : Below w.heap.size w ((w8.alloc (.cells #[.int .u8 ((n : Int) / 256), .int .u8 ((n : Int) % 256)] 5)).drew) := ((T0.alloc T0.size (.cells #[.int .u8 ((n : Int) / 256), .int .u8 ((n : Int) % 256)] 5)))
    try go_wp2_with fail
    refine hK.out _ _ T918 (fun hS918 => ?_)
    clear hK K
    try simp only [Act.put, List.setIfInBounds_toArray, List.set_cons_zero, List.set_cons_succ]
    refine wpAnyH_ready (rs := [14]) (by kernel_rfl) (by simp) ?_
    refine (AllReadyH.cons (o := _) rfl (fun K hK => ?_) AllReadyH.nil)
    have hcv : (convert 59 9 (.slice (some ⟨w8.heap.size, 0, none⟩) 2 2)).run Try.prog ((w8.alloc (.cells #[.int .u8 ((n : Int) / 256), .int .u8 ((n : Int) % 256)] 5)).drew) = .ok (.string ⟨(hd2 n).toArray⟩) ((w8.alloc (.cells #[.int .u8 ((n : Int) / 256), .int .u8 ((n : Int) % 256)] 5)).drew) := string_owned (base := 0) (l := hd2 n) (by rw [HU.out]; exact own_new (size := 1) (heap_new w8 (.cells #[.int .u8 ((n : Int) / 256), .int .u8 ((n : Int) % 256)] 5)) (Nat.zero_le _) rfl (by unfold maxLen; omega))
    go_simp
    have T919 := T918
    try go_wp2_with fail
    refine hK.out _ _ T919 (fun hS919 => ?_)
    clear hK K
    try simp only [Act.put, List.setIfInBounds_toArray, List.set_cons_zero, List.set_cons_succ]
    refine wpAnyH_take (i := 17) (oi := ({ dst := some 102, op := Op.binOp BinOp.add 9 (Operand.tmp 99) (Operand.tmp 101) 9, type := 9, pos := "more.go:23", after := #[{ on := 14, ground := Ground.data }, { on := 16, ground := Ground.data }, { on := 5, ground := Ground.guard }], guard := some (5, true) } : Oper)) (v := ?av920) rfl (by kernel_rfl) (by kernel_rfl) (by kernel_rfl) (fun _ _ _ h => h) (Or.inl ⟨by rfl, ?ay920⟩) T919 ?_
    case ay920 => (intro V hSw; go_simp; try with_reducible rfl)
    try simp only [Act.put, List.setIfInBounds_toArray, List.set_cons_zero, List.set_cons_succ]
    refine wpAnyH_take (i := 20) (oi := ({ dst := some 105, op := Op.binOp BinOp.add 9 (Operand.tmp 102) (Operand.tmp 104) 9, type := 9, pos := "more.go:23", after := #[{ on := 17, ground := Ground.data }, { on := 19, ground := Ground.data }, { on := 5, ground := Ground.guard }], guard := some (5, true) } : Oper)) (v := ?av921) rfl (by kernel_rfl) (by kernel_rfl) (by kernel_rfl) (fun _ _ _ h => h) (Or.inl ⟨by rfl, ?ay921⟩) T919 ?_
    case ay921 => (intro V hSw; go_simp; try with_reducible rfl)
    try simp only [Act.put, List.setIfInBounds_toArray, List.set_cons_zero, List.set_cons_succ]
    refine wpAnyH_take (i := 21) (oi := ({ dst := some 106, op := Op.binOp BinOp.eql 9 (Operand.tmp 91) (Operand.tmp 105) 9, type := 4, pos := "more.go:23", after := #[{ on := 6, ground := Ground.data }, { on := 20, ground := Ground.data }, { on := 5, ground := Ground.guard }], guard := some (5, true) } : Oper)) (v := ?av922) rfl (by kernel_rfl) (by kernel_rfl) (by kernel_rfl) (fun _ _ _ h => h) (Or.inl ⟨by rfl, ?ay922⟩) T919 ?_
    case ay922 => (intro V hSw; go_simp; try with_reducible rfl)
    try simp only [Act.put, List.setIfInBounds_toArray, List.set_cons_zero, List.set_cons_succ]
    refine wpAnyH_take (i := 22) (oi := ({ dst := some 107, op := Op.pick (Operand.tmp 90) (Operand.tmp 106) (Operand.const (Value.bool false)), type := 4, pos := "more.go:23", after := #[{ on := 5, ground := Ground.data }, { on := 21, ground := Ground.data }], guard := none } : Oper)) (v := ?av923) rfl (by kernel_rfl) (by kernel_rfl) (by kernel_rfl) (fun _ _ _ h => h) (Or.inl ⟨by rfl, ?ay923⟩) T919 ?_
    case ay923 => (intro V hSw; go_simp; try with_reducible rfl)
    try simp only [Act.put, List.setIfInBounds_toArray, List.set_cons_zero, List.set_cons_succ]
    refine wpAnyH_take (i := 23) (oi := ({ dst := some 6, op := Op.assign (Operand.tmp 107), type := 4, pos := "more.go:23", after := #[{ on := 22, ground := Ground.data }, { on := 5, ground := Ground.chain }, { on := 0, ground := Ground.phase }, { on := 1, ground := Ground.phase }, { on := 2, ground := Ground.phase }, { on := 3, ground := Ground.phase }, { on := 4, ground := Ground.phase }, { on := 5, ground := Ground.phase }, { on := 6, ground := Ground.phase }, { on := 7, ground := Ground.phase }, { on := 8, ground := Ground.phase }, { on := 9, ground := Ground.phase }, { on := 10, ground := Ground.phase }, { on := 11, ground := Ground.phase }, { on := 12, ground := Ground.phase }, { on := 13, ground := Ground.phase }, { on := 14, ground := Ground.phase }, { on := 15, ground := Ground.phase }, { on := 16, ground := Ground.phase }, { on := 17, ground := Ground.phase }, { on := 18, ground := Ground.phase }, { on := 19, ground := Ground.phase }, { on := 20, ground := Ground.phase }, { on := 21, ground := Ground.phase }, { on := 22, ground := Ground.phase }], guard := none } : Oper)) (v := ?av924) rfl (by kernel_rfl) (by kernel_rfl) (by kernel_rfl) (fun _ _ _ h => h) (Or.inl ⟨by rfl, ?ay924⟩) T919 ?_
    case ay924 => (intro V hSw; go_simp; try with_reducible rfl)
    try simp only [Act.put, List.setIfInBounds_toArray, List.set_cons_zero, List.set_cons_succ]
    refine wpAnyH_done (by kernel_rfl) ?_ _
    go_wp2
    go_ret
    exact ⟨ret_b HEQ.out, T919⟩
  · have hz0 : ke ≠ 0 ∨ kf ≠ 0 → Z.toList.isEmpty = true := fun h => by
      have : kg ≠ 0 := fun e => by
        obtain ⟨a, b⟩ := pk_app (HKG.out.trans e)
        rw [HKE.out] at a
        rw [HKF.out] at b
        omega
      rw [toList_data, HZ8.out, pkS_no (by rw [HKG.out]; exact this)]
      rfl
    by_cases h1 : ke = 0
    · by_cases h2 : kf = 0
      · have h3 : ¬ (la.length : Int) + (lb.length : Int) ≤ 4096 := by omega
        have h3' : (4096 : Int) < (la.length : Int) + (lb.length : Int) := by omega
        have hw : IntKind.i64.wrap ((la.length : Int) + (lb.length : Int)) = (la.length : Int) + (lb.length : Int) := IntWalk.i64_in _ (by omega)
        subst h1; subst h2
        clear hef hz0
        go_wp2
        go_ret
        exact ⟨rfl, B8.out⟩
      · have e2 : ((kf : Int) == 0) = false := by rw [beq_eq_false_iff_ne]; omega
        have e3 : ((kf : Int) != 0) = true := by rw [bne_iff_ne]; omega
        have e4 := hz0 (.inr h2)
        have e5 : ¬ (kf : Int) = 0 := by omega
        subst h1
        clear hef hz0 h2
        go_wp2
        go_ret
        exact ⟨rfl, B8.out⟩
    · have e2 : ((ke : Int) == 0) = false := by rw [beq_eq_false_iff_ne]; omega
      have e3 : ((ke : Int) != 0) = true := by rw [bne_iff_ne]; omega
      have e4 := hz0 (.inl h1)
      have e5 : ¬ (ke : Int) = 0 := by omega
      clear hef hz0 h1
      go_wp2
      go_ret
      exact ⟨rfl, B8.out⟩
end Go.Proofs.Ytgepgbpjdjbelaa
