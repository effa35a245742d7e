/-
  WALK of the document's Free.
-/
import Derived.Test.YtmgpimibnogcaaaR5
import Derived.StillTailTactics
set_option linter.unusedVariables false
set_option linter.unusedSimpArgs false
namespace Go.Proofs.Ytmgpimibnogcaaa
open Go.RowKit

/-- The free blocks side by side joined, one behind the other. -/
def mg : List Blk → List Blk → List Blk
  | D, [] => D
  | D, c :: R => match D.getLast? with
    | some d => if d.us = false ∧ c.us = false then mg (D.dropLast ++ [freeBk (d.sz + c.sz)]) R else mg (D ++ [c]) R
    | none => mg (D ++ [c]) R
theorem mg_join (D : List Blk) (d c : Blk) (R : List Blk) (hd : d.us = false) (hc : c.us = false) : mg (D ++ [d]) (c :: R) = mg (D ++ [freeBk (d.sz + c.sz)]) R := by
  rw [mg, List.getLast?_append]
  simp only [List.getLast?_singleton, Option.some_or]
  rw [if_pos ⟨hd, hc⟩, List.dropLast_concat]
theorem mg_next (D : List Blk) (c : Blk) (R : List Blk) (h : ∀ d, D.getLast? = some d → ¬ (d.us = false ∧ c.us = false)) : mg D (c :: R) = mg (D ++ [c]) R := by
  rw [mg]
  cases hl : D.getLast? with
  | none => rfl
  | some d => simp only; rw [if_neg (h d hl)]
theorem noAdj_two : ∀ (D : List Blk) (d c : Blk) (R : List Blk), NoAdj (D ++ d :: c :: R) → d.us = true ∨ c.us = true
  | [], d, c, R, h => h.1
  | [x], d, c, R, h => h.2.1
  | x :: y :: D, d, c, R, h => noAdj_two (y :: D) d c R h.2
theorem mg_keep : ∀ (R D : List Blk), NoAdj (D ++ R) → mg D R = D ++ R
  | [], D, _ => by rw [mg, List.append_nil]
  | c :: R, D, h => by
    rw [mg_next, mg_keep R (D ++ [c]) (by rw [List.append_assoc]; exact h), List.append_assoc]
    · rfl
    · intro d hd hh
      obtain ⟨D', rfl⟩ : ∃ D', D = D' ++ [d] := by
        have := List.getLast?_eq_some_iff.1 hd
        exact this
      rw [List.append_assoc] at h
      rcases noAdj_two D' d c R h with h1 | h1
      · rw [hh.1] at h1; exact Bool.noConfusion h1
      · rw [hh.2] at h1; exact Bool.noConfusion h1
theorem mg_append : ∀ (A D B : List Blk), mg D (A ++ B) = mg (mg D A) B
  | [], D, B => by rw [List.nil_append, mg]
  | c :: A, D, B => by
    rw [List.cons_append, mg, mg]
    cases D.getLast? with
    | none => simp only; exact mg_append A _ B
    | some d =>
      simp only
      split
      · exact mg_append A _ B
      · exact mg_append A _ B
theorem mg_free {pre1 dl er post1 : List Blk} {s : Nat} (hp : NoAdj (pre1 ++ dl)) (hdl : (dl = [] ∧ ∀ d, (pre1 ++ dl).getLast? = some d → d.us = true) ∨ ∃ d, dl = [d] ∧ d.us = false) (her : (er = [] ∧ ∀ e, (er ++ post1).head? = some e → e.us = true) ∨ ∃ e, er = [e] ∧ e.us = false)
    (hF : NoAdj (pre1 ++ freeBk (len dl + s + len er) :: post1)) (hs : 1 ≤ s) : mg [] ((pre1 ++ dl) ++ freeBk s :: (er ++ post1)) = pre1 ++ freeBk (len dl + s + len er) :: post1 := by
  rw [mg_append, mg_keep _ [] (by exact hp), List.nil_append]
  have e1 : mg (pre1 ++ dl) (freeBk s :: (er ++ post1)) = mg (pre1 ++ [freeBk (len dl + s)]) (er ++ post1) := by
    rcases hdl with ⟨rfl, h⟩ | ⟨d, rfl, hd⟩
    · rw [mg_next _ _ _ (fun d hd hh => by rw [h d hd] at hh; exact Bool.noConfusion hh.1), List.append_nil, len_nil, Nat.zero_add]
    · rw [mg_join _ _ _ _ hd rfl, len_cons, len_nil, freeBk_sz hs, Nat.add_zero]
  have e2 : mg (pre1 ++ [freeBk (len dl + s)]) (er ++ post1) = mg (pre1 ++ [freeBk (len dl + s + len er)]) post1 := by
    rcases her with ⟨rfl, _⟩ | ⟨e, rfl, he⟩
    · rw [List.nil_append, len_nil, Nat.add_zero]
    · rw [List.cons_append, List.nil_append, mg_join _ _ _ _ rfl he, len_cons, len_nil, freeBk_sz (by omega), Nat.add_zero]
  rw [e1, e2, mg_keep _ _ (by rw [List.append_assoc]; exact hF), List.append_assoc]
  rfl
theorem words_freed (pre post : List Blk) (c : Blk) : fillN PZ ((words (pre ++ c :: post)).set (1 + len pre) (2 * (c.sz : Int))) (1 + len pre + 1) (c.sz - 1) = words (pre ++ freeBk c.sz :: post) := by
  have hl := words_length pre
  have hs : 1 ≤ c.sz := by unfold Blk.sz; omega
  rw [words_split, words_split, List.cons_append, set_mid _ _ _ _ _ hl.symm]
  rw [show words pre ++ (2 * (c.sz : Int)) :: (c.body ++ post.flatMap Blk.enc) = (words pre ++ [2 * (c.sz : Int)]) ++ c.body ++ post.flatMap Blk.enc by simp]
  have hcl : c.sz - 1 = c.body.length := rfl
  have e : (freeBk c.sz).body = List.replicate c.body.length PZ := rfl
  rw [hcl, fillN_mid PZ c.body _ _ _ _ (by rw [List.length_append, hl]; rfl) rfl, freeBk_hd hs, e]
  simp
theorem words_join (D R : List Blk) (d c : Blk) (hd : d.body = List.replicate d.body.length PZ) (hc : c.body = List.replicate c.body.length PZ) :
    ((words (D ++ [d] ++ c :: R)).set (1 + len D) (2 * ((d.sz + c.sz : Nat) : Int))).set (1 + len (D ++ [d])) PZ = words (D ++ [freeBk (d.sz + c.sz)] ++ R) := by
  have hl := words_length D
  rw [show D ++ [d] ++ c :: R = D ++ d :: (c :: R) by simp, words_split, List.cons_append, set_mid _ _ _ _ _ hl.symm, List.flatMap_cons]
  rw [show words D ++ (2 * ((d.sz + c.sz : Nat) : Int)) :: (d.body ++ (c.enc ++ R.flatMap Blk.enc)) = (words D ++ (2 * ((d.sz + c.sz : Nat) : Int)) :: d.body) ++ c.hd :: (c.body ++ R.flatMap Blk.enc) by unfold Blk.enc; simp]
  rw [set_mid _ _ _ _ _ (by rw [List.length_append, hl, List.length_cons, len_append, len_cons, len_nil]; unfold Blk.sz; omega)]
  rw [show D ++ [freeBk (d.sz + c.sz)] ++ R = D ++ freeBk (d.sz + c.sz) :: R by simp, words_split, freeBk_hd (by unfold Blk.sz; omega)]
  rw [hd, hc]
  have e : (freeBk (d.sz + c.sz)).body = List.replicate d.body.length PZ ++ PZ :: List.replicate c.body.length PZ := by
    show List.replicate (d.body.length + 1 + (c.body.length + 1) - 1) PZ = _
    rw [show d.body.length + 1 + (c.body.length + 1) - 1 = d.body.length + (c.body.length + 1) by omega, ← List.replicate_append_replicate, List.replicate_succ]
  rw [e]
  simp
set_option maxRecDepth 1000000 in
set_option maxHeartbeats 3200000 in
theorem rfree_none (r rp : Nat) (Bs : List Blk) (w : World) (hw : Wf Bs) (h : RM r rp (words Bs) w) (x : Int) (hx : x ∉ usedL 1 Bs) :
    Calls Try.prog 32 #[.pointer (some ⟨r, 0, none⟩), .int .i64 x] w fun e w' => e = .returned (.int .i64 24) ∧ w' = w := by
  have HU := Lib.hid (rused_any r rp Bs w hw h x)
  have HX := Lib.hid hx
  clear hw h hx
  go_enter Try.func32, Try.ntmps32
  go_wp2_with fail
  refine HU.out.mono ?_
  rintro e w' ⟨⟨u, rfl, hu⟩, rfl⟩
  obtain rfl : u = false := by
    cases u with
    | false => rfl
    | true => exact absurd (hu.1 rfl) HX.out
  clear hu
  go_wp2
  go_ret
  exact ⟨rfl, rfl⟩
/-- Where the last block of a list begins; 0: there is none. -/
def lastAt (D : List Blk) : Nat := if D = [] then 0 else 1 + len D.dropLast
set_option maxRecDepth 1000000 in
set_option maxHeartbeats 12800000 in
theorem rfree_used (r rp : Nat) (pre post : List Blk) (c : Blk) (F : List Blk) (w : World) (hw : Wf (pre ++ c :: post)) (h : RM r rp (words (pre ++ c :: post)) w) (hu : c.us = true) (hF : mg [] (pre ++ freeBk c.sz :: post) = F) :
    Calls Try.prog 32 #[.pointer (some ⟨r, 0, none⟩), .int .i64 ((1 + len pre : Nat) : Int)] w fun e w' => e = .returned (.int .i64 0) ∧ RM r rp (words F) w' ∧ Upd [rp] w w' := by
  have HU := Lib.hid (rused_any r rp _ w hw h ((1 + len pre : Nat) : Int))
  have HX := Lib.hid (usedL_at (a := 1) (pre := pre) (post := post) hu)
  obtain ⟨f1, f2, f3, f4, f5, _⟩ := at_facts hw rfl
  obtain ⟨hb1, hb2⟩ := wf_bound hw
  have hPB : ∀ d ∈ pre ++ freeBk c.sz :: post, 1 ≤ d.body.length ∧ (d.us = false → d.body = List.replicate d.body.length PZ) := by
    intro d hd
    rw [List.mem_append, List.mem_cons] at hd
    rcases hd with hd | rfl | hd
    · exact ⟨hw.body d (by simp [hd]), fun hf => hw.pois d (by simp [hd]) hf⟩
    · have h1 := hw.body c (by simp)
      have e : c.sz = c.body.length + 1 := rfl
      show 1 ≤ (List.replicate (c.sz - 1) PZ).length ∧ (_ → List.replicate (c.sz - 1) PZ = List.replicate (List.replicate (c.sz - 1) PZ).length PZ)
      rw [List.length_replicate]
      exact ⟨by omega, fun _ => rfl⟩
    · exact ⟨hw.body d (by simp [hd]), fun hf => hw.pois d (by simp [hd]) hf⟩
  have hlen : 1 + len (pre ++ freeBk c.sz :: post) = 1 + len (pre ++ c :: post) := by rw [len_append, len_append, len_cons, len_cons, freeBk_sz f3]
  have hfit : 1 + len pre + c.sz ≤ 1 + len (pre ++ c :: post) := by rw [len_append, len_cons]; omega
  have hdv := c.hd_half
  have hgc0 : 0 ≤ c.hd := by unfold Blk.hd; split <;> omega
  have HWF := Lib.hid (words_freed pre post c)
  have hwl := words_length (pre ++ c :: post)
  have c0 := h.box
  rw [hwl] at c0
  have c1 := h.word f1
  have fr := h.free (1 + len pre)
  obtain ⟨l1, l2⟩ := h.lt
  have hai : ((1 + len pre : Nat) : Int) < ((1 + len (pre ++ c :: post) : Nat) : Int) := by omega
  have hv1 : IntKind.i64.wrap (2 * (c.sz : Int)) = 2 * (c.sz : Int) := IntWalk.i64_in _ (by omega)
  have hv2 : IntKind.i64.wrap (((1 + len pre : Nat) : Int) + 1) = ((1 + len pre + 1 : Nat) : Int) := by rw [IntWalk.i64_in _ (by omega)]; omega
  have hv3 : IntKind.i64.wrap (((1 + len pre : Nat) : Int) + (c.sz : Int)) = ((1 + len pre + 1 + (c.sz - 1) : Nat) : Int) := by rw [IntWalk.i64_in _ (by omega)]; omega
  have R1 := Lib.hid (h.store (1 + len pre) (2 * (c.sz : Int)))
  have HP := Lib.hid (fun W hr => rpoison_any r rp _ W hr (1 + len pre + 1) (c.sz - 1) (show 1 + len pre + 1 + (c.sz - 1) ≤ ((words (pre ++ c :: post)).set (1 + len pre) (2 * (c.sz : Int))).length by rw [List.length_set, hwl]; omega) (by rw [List.length_set, hwl]; exact hb2))
  rw [HWF.out] at HP
  have HPB := Lib.hid hPB
  have HF := Lib.hid hF
  have HLEN := Lib.hid hlen
  generalize hBs1 : pre ++ freeBk c.sz :: post = Bs1 at *
  clear hBs1
  generalize words (pre ++ c :: post) = ws0 at *
  generalize 1 + len (pre ++ c :: post) = N at *
  generalize hA1 : 1 + len pre + 1 + (c.sz - 1) = ae at *
  generalize hA2 : 1 + len pre + 1 = a1 at *
  generalize hA3 : 1 + len pre = a at *
  generalize c.hd = hd at *
  generalize c.sz = s at *
  generalize ws0.set a (2 * (s : Int)) = ws1 at *
  clear hA1 hA2 hA3 hw h hu hF hPB hlen f1 hfit
  go_enter Try.func32, Try.ntmps32
  go_wp2_with fail
  refine HU.out.mono ?_
  rintro e w' ⟨⟨u, rfl, hu'⟩, rfl⟩
  obtain rfl : u = true := hu'.2 HX.out
  clear hu' HU
  go_upto_region 6 with fail
  clear c0 c1 fr
  have U1 := Lib.hid (Upd.set (S := [rp]) (b := rp) (i := a) (w := w') (u := .int .i64 (2 * (s : Int))) (by simp))
  generalize w'.setCell ⟨rp, a, none⟩ (.int .i64 (2 * (s : Int))) = w1 at *
  go_wp2_with fail
  refine (HP.out w1 R1.out).mono ?_
  rintro e w2 ⟨rfl, hr, hup⟩
  have R2 := Lib.hid hr
  have U2 := Lib.hid (U1.out.trans hup)
  clear hr hup R1 U1 HP
  go_wp2
  go_loopg [7, 8] Bs1.length (fun g lv kv wx => ∃ D R : List Blk, R.length = g ∧ lv = .int .i64 (lastAt D : Int) ∧ kv = .int .i64 ((1 + len D : Nat) : Int) ∧ mg D R = F ∧ 1 + len (D ++ R) = N ∧ (∀ d ∈ D ++ R, 1 ≤ d.body.length ∧ (d.us = false → d.body = List.replicate d.body.length PZ)) ∧ RM r rp (words (D ++ R)) wx ∧ Upd [rp] w' wx)
  case atStart => exact ⟨[], Bs1, rfl, rfl, rfl, HF.out, HLEN.out, HPB.out, R2.out, U2.out⟩
  case round =>
    obtain ⟨D, R, hg, rfl, rfl, hmg, hN, hpb, hr, hup⟩ := hrel
    have RK := Lib.hid hr
    have UK := Lib.hid hup
    have HMG := Lib.hid hmg
    have HN := Lib.hid hN
    have HPK := Lib.hid hpb
    have c0 := hr.box
    rw [words_length, hN] at c0
    obtain ⟨l1, l2⟩ := hr.lt
    clear hr hup hmg hpb
    cases R with
    | nil =>
      rw [List.append_nil] at hN
      have hge : ¬ ((1 + len D : Nat) : Int) < (N : Int) := by omega
      have RF := Lib.hid (show RM r rp (words F) wr by have h1 := HMG.out; rw [mg] at h1; have := RK.out; rwa [List.append_nil, h1] at this)
      clear hN
      go_wp2
      go_ret
      exact ⟨rfl, RF.out, UK.out⟩
    | cons e R =>
      have hgg : R.length < gk := by rw [← hg, List.length_cons]; omega
      have hat : At (D ++ e :: R) (1 + len D) e := ⟨D, R, rfl, rfl⟩
      have hw1 := hat.facts.2.2.1
      have c1 := RK.out.word hw1
      have fr1 := RK.out.free (1 + len D)
      have hesz : e.sz = e.body.length + 1 := rfl
      have hk : 1 + len D < N := by rw [← hN, len_append, len_cons]; omega
      have hfit : 1 + len D + e.sz ≤ N := by rw [← hN, len_append, len_cons]; omega
      have hki : ((1 + len D : Nat) : Int) < (N : Int) := by omega
      have hesb : e.sz ≤ 1048576 := by omega
      have hdv := e.hd_half
      have hmd := e.hd_mod
      have hge0 : 0 ≤ e.hd := by unfold Blk.hd; split <;> omega
      have hwk : IntKind.i64.wrap (((1 + len D : Nat) : Int) + (e.sz : Int)) = ((1 + len D + e.sz : Nat) : Int) := by rw [IntWalk.i64_in _ (by omega)]; omega
      have HLA : lastAt (D ++ [e]) = 1 + len D := by
        unfold lastAt
        rw [if_neg (by simp), List.dropLast_concat]
      have hnext : 1 + len D + e.sz = 1 + len (D ++ [e]) := by rw [len_append, len_cons, len_nil]; omega
      have HLA' := Lib.hid HLA
      have HNX := Lib.hid hnext
      have HAP := Lib.hid (show D ++ e :: R = (D ++ [e]) ++ R by simp)
      have HES := Lib.hid hesz
      have HKK := Lib.hid (show ((1 + len D + e.sz : Nat) : Int) = ((1 + len D : Nat) : Int) + (e.sz : Int) by omega)
      clear hw1 hat HLA hesz
      rcases List.eq_nil_or_concat D with hD | ⟨D', d, hD⟩
      · have hla : lastAt D = 0 := by rw [hD]; rfl
        have hmn := HMG.out
        rw [mg_next _ _ _ (fun d hd => by rw [hD] at hd; simp at hd)] at hmn
        have HMN := Lib.hid hmn
        clear hmn
        clear hnext hN hg
        generalize hkn : 1 + len D + e.sz = kn at *
        generalize hk1 : 1 + len D = k at *
        generalize hl1 : lastAt D = la at *
        clear hkn hk1
        generalize e.hd = hd1 at *
        subst hla
        go_wp2
        go_roundg R.length
        case measure => exact hgg
        case rel => exact ⟨D ++ [e], R, rfl, by rw [HLA'.out], by first | (rw [← HNX.out]; done) | (rw [← HNX.out, Int.tdiv_eq_ediv_of_nonneg hge0, hdv]; rw [IntWalk.wrap64_in (e.sz : Int) (by omega), IntWalk.wrap64_in _ (by omega), ← HKK.out]), HMN.out, by rw [← HAP.out]; exact HN.out, by rw [← HAP.out]; exact HPK.out, by rw [← HAP.out]; exact RK.out, UK.out⟩
      · rw [List.concat_eq_append] at hD
        have hla : lastAt D = 1 + len D' := by
          unfold lastAt
          rw [hD, if_neg (by simp), List.dropLast_concat]
        have hatd : At (D ++ e :: R) (1 + len D') d := ⟨D', e :: R, by rw [hD]; simp, rfl⟩
        have hwd := hatd.facts.2.2.1
        have c2 := RK.out.word hwd
        have fr2 := RK.out.free (1 + len D')
        have hdsz : d.sz = d.body.length + 1 := rfl
        have hDl : len D = len D' + d.sz := by rw [hD, len_append, len_cons, len_nil]; omega
        have HDS := Lib.hid hdsz
        have hla0 : (0 : Int) < ((1 + len D' : Nat) : Int) := by omega
        have hlaN : 1 + len D' < N := by omega
        have hlaNi : ((1 + len D' : Nat) : Int) < (N : Int) := by omega
        have hmdd := d.hd_mod
        have hged : 0 ≤ d.hd := by unfold Blk.hd; split <;> omega
        have HHD := Lib.hid (show d.us = false → d.hd = 2 * (d.sz : Int) from fun hu => by unfold Blk.hd; rw [hu, if_neg (by decide), Int.add_zero])
        have HHE := Lib.hid (show e.us = false → e.hd = 2 * (e.sz : Int) from fun hu => by unfold Blk.hd; rw [hu, if_neg (by decide), Int.add_zero])
        clear hwd hatd
        cases hdu : d.us with
        | true =>
          rw [if_pos hdu] at hmdd
          have HDU := Lib.hid hdu
          clear hdu
          have hmn := HMG.out
          rw [mg_next _ _ _ (fun x hx => by rw [hD, List.getLast?_append] at hx; simp only [List.getLast?_singleton, Option.some_or, Option.some.injEq] at hx; subst hx; rw [HDU.out]; simp)] at hmn
          have HMN := Lib.hid hmn
          clear hmn
          have hbd : ((d.hd % 2) == 0) = false := by rw [hmdd]; rfl
          clear hnext hN hg hDl hdsz
          rw [hla]
          generalize hkn : 1 + len D + e.sz = kn at *
          generalize hk1 : 1 + len D = k at *
          generalize hl1 : 1 + len D' = la at *
          generalize e.hd = hd1 at *
          generalize d.hd = hd2 at *
          go_wp2
          go_roundg R.length
          case measure => exact hgg
          case rel => exact ⟨D ++ [e], R, rfl, by rw [HLA'.out], by first | (rw [← HNX.out]; done) | (rw [← HNX.out, Int.tdiv_eq_ediv_of_nonneg hge0, hdv]; rw [IntWalk.wrap64_in (e.sz : Int) (by omega), IntWalk.wrap64_in _ (by omega), ← HKK.out]), HMN.out, by rw [← HAP.out]; exact HN.out, by rw [← HAP.out]; exact HPK.out, by rw [← HAP.out]; exact RK.out, UK.out⟩
        | false =>
          rw [if_neg (by rw [hdu]; decide)] at hmdd
          have HDU := Lib.hid hdu
          clear hdu
          cases heu : e.us with
          | true =>
            rw [if_pos heu] at hmd
            have HEU := Lib.hid heu
            clear heu
            have hmn := HMG.out
            rw [mg_next _ _ _ (fun x hx => by rw [HEU.out]; simp)] at hmn
            have HMN := Lib.hid hmn
            clear hmn
            have hbd : ((d.hd % 2) == 0) = true := by rw [hmdd]; rfl
            have hbe : ((e.hd % 2) == 0) = false := by rw [hmd]; rfl
            clear hnext hN hg hDl hdsz
            rw [hla]
            generalize hkn : 1 + len D + e.sz = kn at *
            generalize hk1 : 1 + len D = k at *
            generalize hl1 : 1 + len D' = la at *
            generalize e.hd = hd1 at *
            generalize d.hd = hd2 at *
            go_wp2
            go_roundg R.length
            case measure => exact hgg
            case rel => exact ⟨D ++ [e], R, rfl, by rw [HLA'.out], by first | (rw [← HNX.out]; done) | (rw [← HNX.out, Int.tdiv_eq_ediv_of_nonneg hge0, hdv]; rw [IntWalk.wrap64_in (e.sz : Int) (by omega), IntWalk.wrap64_in _ (by omega), ← HKK.out]), HMN.out, by rw [← HAP.out]; exact HN.out, by rw [← HAP.out]; exact HPK.out, by rw [← HAP.out]; exact RK.out, UK.out⟩
          | false =>
            rw [if_neg (by rw [heu]; decide)] at hmd
            have HEU := Lib.hid heu
            clear heu
            have hmn := HMG.out
            rw [hD, mg_join _ _ _ _ HDU.out HEU.out] at hmn
            have HMN := Lib.hid hmn
            have hpd := HPK.out d (by rw [hD]; simp)
            have hpe := HPK.out e (by simp)
            have HWJ := Lib.hid (words_join D' R d e (hpd.2 HDU.out) (hpe.2 HEU.out))
            rw [← hD] at HWJ
            have HND := Lib.hid (show 1 + len D + e.sz = 1 + len (D' ++ [freeBk (d.sz + e.sz)]) by rw [len_append, len_cons, len_nil, freeBk_sz (by omega)]; omega)
            have HNN := Lib.hid (show 1 + len (D' ++ [freeBk (d.sz + e.sz)] ++ R) = N by rw [← HN.out, len_append, len_append, len_cons, len_nil, freeBk_sz (by omega), len_append, len_cons]; omega)
            have HLJ := Lib.hid (show lastAt (D' ++ [freeBk (d.sz + e.sz)]) = 1 + len D' by unfold lastAt; rw [if_neg (by simp), List.dropLast_concat])
            have HPJ := Lib.hid (show ∀ x ∈ D' ++ [freeBk (d.sz + e.sz)] ++ R, 1 ≤ x.body.length ∧ (x.us = false → x.body = List.replicate x.body.length PZ) from fun x hx => by
              rw [List.mem_append, List.mem_append, List.mem_singleton] at hx
              rcases hx with (hx | rfl) | hx
              · exact HPK.out x (by rw [hD]; simp [hx])
              · show 1 ≤ (List.replicate (d.sz + e.sz - 1) PZ).length ∧ (_ → List.replicate (d.sz + e.sz - 1) PZ = List.replicate (List.replicate (d.sz + e.sz - 1) PZ).length PZ)
                rw [List.length_replicate]
                exact ⟨by omega, fun _ => rfl⟩
              · exact HPK.out x (by simp [hx]))
            have R3 := Lib.hid (RK.out.store (1 + len D') (2 * ((d.sz + e.sz : Nat) : Int)))
            have U3 := Lib.hid (UK.out.trans (Upd.set (S := [rp]) (b := rp) (i := 1 + len D') (u := .int .i64 (2 * ((d.sz + e.sz : Nat) : Int))) (by simp)))
            have hbd : ((d.hd % 2) == 0) = true := by rw [hmdd]; rfl
            have hbe : ((e.hd % 2) == 0) = true := by rw [hmd]; rfl
            have hdd := HHD.out HDU.out
            have hee := HHE.out HEU.out
            have hsum : IntKind.i64.wrap (d.hd + e.hd) = 2 * ((d.sz + e.sz : Nat) : Int) := by rw [IntWalk.i64_in _ (by omega)]; omega
            have hneq : 1 + len D' ≠ 1 + len D := by omega
            have HC4 := Lib.hid (show (((words (D ++ e :: R)).set (1 + len D') (2 * ((d.sz + e.sz : Nat) : Int)))[1 + len D]?) = some e.hd by rw [List.getElem?_set_ne hneq]; exact (show At (D ++ e :: R) (1 + len D) e from ⟨D, R, rfl, rfl⟩).facts.2.2.1)
            have HLEN3 := Lib.hid (show ((words (D ++ e :: R)).set (1 + len D') (2 * ((d.sz + e.sz : Nat) : Int))).length = N by rw [List.length_set, words_length]; exact HN.out)
            clear hnext hN hg hDl hmn hpd hpe hdsz
            rw [hla]
            generalize hkn : 1 + len D + e.sz = kn at *
            generalize hk1 : 1 + len D = k at *
            generalize hl1 : 1 + len D' = la at *
            generalize hss : d.sz + e.sz = ss at *
            generalize (words (D ++ e :: R)).set la (2 * (ss : Int)) = wsJ at *
            generalize hhd1 : e.hd = hd1 at *
            generalize hhd2 : d.hd = hd2 at *
            clear hhd1 hhd2 hdd hee
            go_upto_region 12 with fail
            go_still_tail 21, (by kernel_rfl)
            change wpList _ _ _ _ _ wr.drew
            have RD := Lib.hid (show RM r rp (words (D ++ e :: R)) wr.drew from RK.out.drewN 1)
            have R3' := Lib.hid (show RM r rp wsJ (wr.drew.setCell ⟨rp, la, none⟩ (.int .i64 (2 * (ss : Int)))) from R3.out.keep rfl rfl)
            have U3' := Lib.hid (show Upd [rp] w' (wr.drew.setCell ⟨rp, la, none⟩ (.int .i64 (2 * (ss : Int)))) from ⟨U3.out.os, U3.out.tape, U3.out.output, U3.out.size, U3.out.block⟩)
            have c2' : wr.drew.cell? ⟨rp, la, none⟩ = some (.int .i64 hd2) := c2
            have fr2' : wr.drew.frozen? ⟨rp, la, none⟩ = false := fr2
            have l2' : rp < wr.drew.heap.size := l2
            have l1' : r < wr.drew.heap.size := l1
            have c0' : wr.drew.cell? ⟨r, 0, none⟩ = some (.slice (some ⟨rp, 0, none⟩) N N) := c0
            clear c0 c1 c2 fr1 fr2 l1 l2 R3 U3 RK UK
            generalize wr.drew = wd at *
            go_upto_region 13 with fail
            clear c2' fr2' l2' l1' c0'
            generalize wd.setCell ⟨rp, la, none⟩ (.int .i64 (2 * (ss : Int))) = w3 at *
            have c0 := R3'.out.box
            rw [HLEN3.out] at c0
            have c4 := R3'.out.word HC4.out
            have fr4 := R3'.out.free k
            obtain ⟨m1, m2⟩ := R3'.out.lt
            have R4 := Lib.hid (R3'.out.store k PZ)
            have U4 := Lib.hid (U3'.out.trans (Upd.set (S := [rp]) (b := rp) (i := k) (u := .int .i64 PZ) (by simp)))
            rw [HWJ.out] at R4
            unfold PZ at R4 U4
            go_wp2
            go_roundg R.length
            case measure => exact hgg
            case rel => exact ⟨D' ++ [freeBk ss], R, rfl, by rw [HLJ.out], by rw [← HND.out], HMN.out, HNN.out, HPJ.out, R4.out, U4.out⟩
end Go.Proofs.Ytmgpimibnogcaaa
