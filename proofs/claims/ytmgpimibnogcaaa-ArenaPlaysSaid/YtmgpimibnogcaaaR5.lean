/-
  WALK of the document's Alloc.
-/
import Derived.Test.YtmgpimibnogcaaaR4
set_option linter.unusedVariables false
set_option linter.unusedSimpArgs false
namespace Go.Proofs.Ytmgpimibnogcaaa
open Go.RowKit

theorem sel_ex (n : Nat) : ∀ Bs : List Blk, ∃ best size, Sel n Bs best size := by
  intro Bs
  have key : ∀ (rest pre : List Blk) (best size : Nat), Sel n pre best size → ∃ best size, Sel n (pre ++ rest) best size := by
    intro rest
    induction rest with
    | nil => intro pre best size h; exact ⟨best, size, by rw [List.append_nil]; exact h⟩
    | cons c r ih =>
      intro pre best size h
      rw [show pre ++ c :: r = (pre ++ [c]) ++ r by simp]
      by_cases hc : c.us = false ∧ n + 1 ≤ c.sz ∧ (best = 0 ∨ c.sz < size)
      · exact ih _ _ _ (h.take hc.1 hc.2.1 hc.2.2)
      · exact ih _ _ _ (h.pass hc)
  exact key Bs [] 0 0 (Sel.start _ _)
theorem sel_unique {n b b' s s' : Nat} {Bs : List Blk} (h : Sel n Bs b s) (h' : Sel n Bs b' s') : b = b' := by
  rcases h with ⟨rfl, h⟩ | ⟨A, c, C, rfl, h1, h2, rfl, rfl, hA, hC⟩
  · rcases h' with ⟨rfl, _⟩ | ⟨A, c, C, rfl, h1, h2, rfl, rfl, _⟩
    · rfl
    · have := h c (by simp) h1
      omega
  · rcases h' with ⟨rfl, h'⟩ | ⟨A', c', C', he, g1, g2, rfl, rfl, hA', hC'⟩
    · have := h' c (by simp) h1
      omega
    · rcases where_is he.symm with ⟨m, rfl⟩ | ⟨rfl, rfl, rfl⟩ | ⟨m, rfl, rfl⟩
      · have e : C' = m ++ c :: C := by
          rw [List.append_assoc, List.append_cancel_left_eq, List.cons_append, List.cons.injEq] at he
          exact he.2.symm
        have q1 := hA c' (by simp) g1 g2
        have q2 := hC' c (by rw [e]; simp) h1 h2
        omega
      · rfl
      · have q1 := hA' c (by simp) h1 h2
        have q2 := hC c' (by simp) g1 g2
        omega
set_option maxRecDepth 1000000 in
set_option maxHeartbeats 3200000 in
theorem ralloc_bad (r rp : Nat) (w : World) (n : Int) (hn : ¬ (1 ≤ n ∧ n ≤ 1048576)) :
    Calls Try.prog 31 #[.pointer (some ⟨r, 0, none⟩), .int .i64 n] w fun e w' => e = .returned (.tuple #[.int .i64 0, .int .i64 1]) ∧ w' = w := by
  by_cases h1 : n < 1
  · go_enter Try.func31, Try.ntmps31
    go_wp2
    go_ret2
    exact ⟨rfl, rfl⟩
  · have h1f : (n < 1) = False := eq_false h1
    have h2 : 1048576 < n := by omega
    clear hn h1
    go_enter Try.func31, Try.ntmps31
    go_wp2
    go_ret2
    exact ⟨rfl, rfl⟩
set_option maxRecDepth 1000000 in
set_option maxHeartbeats 3200000 in
theorem ralloc_none (r rp : Nat) (Bs : List Blk) (w : World) (hw : Wf Bs) (h : RM r rp (words Bs) w) (n : Nat) (h1 : 1 ≤ n) (h2 : n ≤ 1048576) (s : Nat) (hs : Sel n Bs 0 s) :
    Calls Try.prog 31 #[.pointer (some ⟨r, 0, none⟩), .int .i64 (n : Int)] w fun e w' => e = .returned (.tuple #[.int .i64 0, .int .i64 23]) ∧ ∃ d, w' = w.drewN d := by
  have HB := Lib.hid (rbest_any r rp Bs w hw h n h2)
  have HS := Lib.hid hs
  have h1f : ((n : Int) < 1) = False := eq_false (by omega)
  have h2f : ((1048576 : Int) < (n : Int)) = False := eq_false (by omega)
  clear hw h hs
  go_enter Try.func31, Try.ntmps31
  go_wp2_with fail
  refine HB.out.mono ?_
  rintro e w' ⟨⟨best, size, rfl, hsel⟩, d, rfl⟩
  obtain rfl := sel_unique hsel HS.out
  clear hsel
  go_wp2
  go_ret2
  exact ⟨rfl, d, rfl⟩
set_option maxRecDepth 1000000 in
set_option maxHeartbeats 6400000 in
theorem ralloc_some (r rp : Nat) (A C : List Blk) (c : Blk) (w : World) (hw : Wf (A ++ c :: C)) (h : RM r rp (words (A ++ c :: C)) w) (n : Nat) (h1 : 1 ≤ n) (h2 : n ≤ 1048576) (hu : c.us = false) (hz : n + 1 ≤ c.sz)
    (hA : ∀ d ∈ A, d.us = false → n + 1 ≤ d.sz → c.sz < d.sz) (hC : ∀ d ∈ C, d.us = false → n + 1 ≤ d.sz → c.sz ≤ d.sz) :
    Calls Try.prog 31 #[.pointer (some ⟨r, 0, none⟩), .int .i64 (n : Int)] w fun e w' => e = .returned (.tuple #[.int .i64 ((1 + len A : Nat) : Int), .int .i64 0]) ∧ RM r rp (words (A ++ takeB n c ++ C)) w' ∧ Upd [rp] w w' := by
  have hs : Sel n (A ++ c :: C) (1 + len A) c.sz := .inr ⟨A, c, C, rfl, hu, hz, rfl, rfl, hA, hC⟩
  have HB := Lib.hid (rbest_any r rp _ w hw h n h2)
  have HS := Lib.hid hs
  have h1f : ((n : Int) < 1) = False := eq_false (by omega)
  have h2f : ((1048576 : Int) < (n : Int)) = False := eq_false (by omega)
  obtain ⟨f1, f2, f3, f4, f5, _⟩ := at_facts hw rfl
  have HT := Lib.hid (takeW_mid A C c n hz hu (hw.pois c (by simp) hu))
  have hszw : szW (words (A ++ c :: C)) (1 + len A) = c.sz := At.szW ⟨A, C, rfl, rfl⟩
  unfold takeW takeS at HT
  rw [hszw] at HT
  have hwl := words_length (A ++ c :: C)
  obtain ⟨hb1, hb2⟩ := wf_bound hw
  have hfit : 1 + len A + c.sz ≤ 1 + len (A ++ c :: C) := by rw [len_append, len_cons]; omega
  have hdv := c.hd_half
  have hhd : c.hd = 2 * (c.sz : Int) := by unfold Blk.hd; rw [hu, if_neg (by decide), Int.add_zero]
  generalize words (A ++ takeB n c ++ C) = WT at *
  generalize words (A ++ c :: C) = ws at *
  have HSEL := Lib.hid (fun (best size : Nat) (hsel : Sel n (A ++ c :: C) best size) => sel_unique hsel HS.out)
  have ha1 : 0 < 1 + len A := by omega
  clear hA hC hs hw hszw HS hu hhd
  generalize 1 + len (A ++ c :: C) = N at *
  generalize hn1 : 1 + len A = a at *
  clear hn1
  generalize c.hd = hd at *
  generalize c.sz = s at *
  have H := Lib.hid h
  have HF1 := Lib.hid f1
  have HWL := Lib.hid hwl
  have ha0 : ((a : Int) == 0) = false := by rw [beq_eq_false_iff_ne]; omega
  clear h f1 hwl
  go_enter Try.func31, Try.ntmps31
  go_wp2_with fail
  refine HB.out.mono ?_
  rintro e w0 ⟨⟨best, size, rfl, hsel⟩, d, hd0⟩
  obtain rfl := (HSEL.out best size hsel).symm
  have R0 := Lib.hid (show RM r rp ws w0 by rw [hd0]; exact H.out.drewN d)
  have U0 := Lib.hid (show Upd [rp] w w0 by rw [hd0]; exact (Upd.refl _ _).drewN d)
  clear hsel hd0 HB H HSEL
  have c0 := R0.out.box
  rw [HWL.out] at c0
  have c1 := R0.out.word HF1.out
  obtain ⟨l1, l2⟩ := R0.out.lt
  have hai : (a : Int) < (N : Int) := by omega
  have hw1 : IntKind.i64.wrap ((s : Int) - 1) = (s : Int) - 1 := IntWalk.i64_in _ (by omega)
  have hw2 : IntKind.i64.wrap ((n : Int) + 2) = (n : Int) + 2 := IntWalk.i64_in _ (by omega)
  have hw5 : IntKind.i64.wrap ((n : Int) + 1) = ((n + 1 : Nat) : Int) := by rw [IntWalk.i64_in _ (by omega)]; omega
  by_cases hsp : n + 3 ≤ s
  · rw [if_pos hsp, if_pos hsp] at HT
    have hspi : (n : Int) + 2 ≤ (s : Int) - 1 := by omega
    have hw3 : IntKind.i64.wrap ((a : Int) + (n : Int)) = ((a + n : Nat) : Int) := by rw [IntWalk.i64_in _ (by omega)]; omega
    have hw4 : IntKind.i64.wrap (((a + n : Nat) : Int) + 1) = ((a + (n + 1) : Nat) : Int) := by rw [IntWalk.i64_in _ (by omega)]; omega
    have hw6 : IntKind.i64.wrap ((s : Int) - (n : Int)) = ((s - n : Nat) : Int) := by rw [IntWalk.i64_in _ (by omega)]; omega
    have hw7 : IntKind.i64.wrap (((s - n : Nat) : Int) - 1) = ((s - 1 - n : Nat) : Int) := by rw [IntWalk.i64_in _ (by omega)]; omega
    have hw8 : IntKind.i64.wrap (2 * ((s - 1 - n : Nat) : Int)) = 2 * ((s - 1 - n : Nat) : Int) := IntWalk.i64_in _ (by omega)
    have hani : ((a + (n + 1) : Nat) : Int) < (N : Int) := by omega
    obtain ⟨y2, hy2⟩ : ∃ y, ws[a + (n + 1)]? = some y := ⟨_, List.getElem?_eq_getElem (by rw [HWL.out]; omega)⟩
    have k2 := R0.out.word hy2
    have fk2 := R0.out.free (a + (n + 1))
    have R1 := Lib.hid (R0.out.store (a + (n + 1)) (2 * ((s - 1 - n : Nat) : Int)))
    have U1 := Lib.hid (U0.out.trans (Upd.set (S := [rp]) (b := rp) (i := a + (n + 1)) (u := .int .i64 (2 * ((s - 1 - n : Nat) : Int))) (by simp)))
    clear hy2
    generalize hAN : a + (n + 1) = an at *
    generalize hAM : a + n = am at *
    generalize hSN : s - n = sn at *
    generalize hSM : s - 1 - n = sm at *
    go_upto_region 9 with fail
    clear k2 fk2 c0 c1 l1 l2
    generalize w0.setCell ⟨rp, an, none⟩ (.int .i64 (2 * (sm : Int))) = w1 at *
    have hwl1 : (ws.set an (2 * (sm : Int))).length = N := by rw [List.length_set, HWL.out]
    have c0' := R1.out.box
    rw [hwl1] at c0'
    obtain ⟨y3, hy3⟩ : ∃ y, (ws.set an (2 * (sm : Int)))[a]? = some y := ⟨_, List.getElem?_eq_getElem (by rw [hwl1]; omega)⟩
    have k3 := R1.out.word hy3
    have fk3 := R1.out.free a
    obtain ⟨m1, m2⟩ := R1.out.lt
    have hv1 : IntKind.i64.wrap (2 * ((n + 1 : Nat) : Int)) = 2 * ((n + 1 : Nat) : Int) := IntWalk.i64_in _ (by omega)
    have hv2 : IntKind.i64.wrap (2 * ((n + 1 : Nat) : Int) + 1) = 2 * ((n + 1 : Nat) : Int) + 1 := IntWalk.i64_in _ (by omega)
    have R2 := Lib.hid (R1.out.store a (2 * ((n + 1 : Nat) : Int) + 1))
    have U2 := Lib.hid (U1.out.trans (Upd.set (S := [rp]) (b := rp) (i := a) (u := .int .i64 (2 * ((n + 1 : Nat) : Int) + 1)) (by simp)))
    have HWL2 := Lib.hid (show ((ws.set an (2 * (sm : Int))).set a (2 * ((n + 1 : Nat) : Int) + 1)).length = N by rw [List.length_set]; exact hwl1)
    clear hy3 hwl1 R1 U1
    generalize (ws.set an (2 * (sm : Int))).set a (2 * ((n + 1 : Nat) : Int) + 1) = ws2 at *
    have hSlo : 1 ≤ n + 1 := by omega
    have hShi : a + (n + 1) ≤ N := by omega
    generalize hSS : n + 1 = S at *
    clear hSS
    go_upto_region 11 with fail
    clear k3 fk3 c0' m1 m2
    generalize w1.setCell ⟨rp, a, none⟩ (.int .i64 (2 * (S : Int) + 1)) = w2 at *
    go_wp2
    go_loopg [8] (S - 1) (fun g iv wx => ∃ k : Nat, iv = .int .i64 ((1 + k : Nat) : Int) ∧ k + g = S - 1 ∧ RM r rp (fillN 0 ws2 (a + 1) k) wx ∧ Upd [rp] w wx)
    case atStart => exact ⟨0, rfl, by omega, R2.out, U2.out⟩
    case round =>
      obtain ⟨k, rfl, hkg, hr, hup⟩ := hrel
      have RK := Lib.hid hr
      have UK := Lib.hid hup
      clear hr hup
      by_cases hk : 1 + k < S
      · have hki : ((1 + k : Nat) : Int) < (S : Int) := by omega
        have hgg : gk - 1 < gk := by omega
        have c0'' := RK.out.box
        rw [fillN_len, HWL2.out] at c0''
        obtain ⟨y4, hy4⟩ : ∃ y, (fillN 0 ws2 (a + 1) k)[a + 1 + k]? = some y := ⟨_, List.getElem?_eq_getElem (by rw [fillN_len, HWL2.out]; omega)⟩
        have k4 := RK.out.word hy4
        have fk4 := RK.out.free (a + 1 + k)
        obtain ⟨m1, m2⟩ := RK.out.lt
        have RN := Lib.hid (RK.out.store (a + 1 + k) 0)
        have hv3 : IntKind.i64.wrap ((a : Int) + ((1 + k : Nat) : Int)) = ((a + 1 + k : Nat) : Int) := by rw [IntWalk.i64_in _ (by omega)]; omega
        have hv4 : ((a + 1 + k : Nat) : Int) < (N : Int) := by omega
        have hv4' : a + 1 + k < N := by omega
        have hv5 : IntKind.i64.wrap (((1 + k : Nat) : Int) + 1) = ((1 + (k + 1) : Nat) : Int) := by rw [IntWalk.i64_in _ (by omega)]; omega
        have HV5 := Lib.hid hv5
        have HV6 := Lib.hid (show ((1 + k : Nat) : Int) + 1 = ((1 + (k + 1) : Nat) : Int) by omega)
        clear hy4
        generalize hA1 : a + 1 + k = ak at *
        generalize hK1 : 1 + k = k1 at *
        generalize hK2 : 1 + (k + 1) = k2 at *
        go_wp2
        go_roundg (gk - 1)
        case measure => exact hgg
        case rel => exact ⟨k + 1, by subst hK2; first | rfl | (rw [← HV6.out]; rfl), by omega, by subst hA1; exact RN.out, UK.out.trans (Upd.set (by simp))⟩
      · have hki : (((1 + k : Nat) : Int) < (S : Int)) = False := eq_false (by omega)
        obtain rfl : S - 1 = k := by omega
        have RW := Lib.hid (show RM r rp WT wr by rw [← HT.out]; exact RK.out)
        go_wp2
        go_ret2
        exact ⟨rfl, RW.out, UK.out⟩
  · rw [if_neg hsp, if_neg hsp] at HT
    have hspf : ((n : Int) + 2 ≤ (s : Int) - 1) = False := eq_false (by omega)
    have R1 := R0
    have U1 := U0
    have hwl1 : (ws).length = N := by rw [HWL.out]
    have c0' := R1.out.box
    rw [hwl1] at c0'
    obtain ⟨y3, hy3⟩ : ∃ y, (ws)[a]? = some y := ⟨_, List.getElem?_eq_getElem (by rw [hwl1]; omega)⟩
    have k3 := R1.out.word hy3
    have fk3 := R1.out.free a
    obtain ⟨m1, m2⟩ := R1.out.lt
    have hv1 : IntKind.i64.wrap (2 * ((s : Nat) : Int)) = 2 * ((s : Nat) : Int) := IntWalk.i64_in _ (by omega)
    have hv2 : IntKind.i64.wrap (2 * ((s : Nat) : Int) + 1) = 2 * ((s : Nat) : Int) + 1 := IntWalk.i64_in _ (by omega)
    have R2 := Lib.hid (R1.out.store a (2 * ((s : Nat) : Int) + 1))
    have U2 := Lib.hid (U1.out.trans (Upd.set (S := [rp]) (b := rp) (i := a) (u := .int .i64 (2 * ((s : Nat) : Int) + 1)) (by simp)))
    have HWL2 := Lib.hid (show ((ws).set a (2 * ((s : Nat) : Int) + 1)).length = N by rw [List.length_set]; exact hwl1)
    clear hy3 hwl1 R1 U1
    generalize (ws).set a (2 * ((s : Nat) : Int) + 1) = ws2 at *
    have hSlo : 1 ≤ s := by omega
    have hShi : a + (s) ≤ N := by omega
    generalize hSS : s = S at *
    clear hSS
    go_upto_region 11 with fail
    clear k3 fk3 c0' m1 m2
    generalize w0.setCell ⟨rp, a, none⟩ (.int .i64 (2 * (S : Int) + 1)) = w2 at *
    go_wp2
    go_loopg [8] (S - 1) (fun g iv wx => ∃ k : Nat, iv = .int .i64 ((1 + k : Nat) : Int) ∧ k + g = S - 1 ∧ RM r rp (fillN 0 ws2 (a + 1) k) wx ∧ Upd [rp] w wx)
    case atStart => exact ⟨0, rfl, by omega, R2.out, U2.out⟩
    case round =>
      obtain ⟨k, rfl, hkg, hr, hup⟩ := hrel
      have RK := Lib.hid hr
      have UK := Lib.hid hup
      clear hr hup
      by_cases hk : 1 + k < S
      · have hki : ((1 + k : Nat) : Int) < (S : Int) := by omega
        have hgg : gk - 1 < gk := by omega
        have c0'' := RK.out.box
        rw [fillN_len, HWL2.out] at c0''
        obtain ⟨y4, hy4⟩ : ∃ y, (fillN 0 ws2 (a + 1) k)[a + 1 + k]? = some y := ⟨_, List.getElem?_eq_getElem (by rw [fillN_len, HWL2.out]; omega)⟩
        have k4 := RK.out.word hy4
        have fk4 := RK.out.free (a + 1 + k)
        obtain ⟨m1, m2⟩ := RK.out.lt
        have RN := Lib.hid (RK.out.store (a + 1 + k) 0)
        have hv3 : IntKind.i64.wrap ((a : Int) + ((1 + k : Nat) : Int)) = ((a + 1 + k : Nat) : Int) := by rw [IntWalk.i64_in _ (by omega)]; omega
        have hv4 : ((a + 1 + k : Nat) : Int) < (N : Int) := by omega
        have hv4' : a + 1 + k < N := by omega
        have hv5 : IntKind.i64.wrap (((1 + k : Nat) : Int) + 1) = ((1 + (k + 1) : Nat) : Int) := by rw [IntWalk.i64_in _ (by omega)]; omega
        have HV5 := Lib.hid hv5
        have HV6 := Lib.hid (show ((1 + k : Nat) : Int) + 1 = ((1 + (k + 1) : Nat) : Int) by omega)
        clear hy4
        generalize hA1 : a + 1 + k = ak at *
        generalize hK1 : 1 + k = k1 at *
        generalize hK2 : 1 + (k + 1) = k2 at *
        go_wp2
        go_roundg (gk - 1)
        case measure => exact hgg
        case rel => exact ⟨k + 1, by subst hK2; first | rfl | (rw [← HV6.out]; rfl), by omega, by subst hA1; exact RN.out, UK.out.trans (Upd.set (by simp))⟩
      · have hki : (((1 + k : Nat) : Int) < (S : Int)) = False := eq_false (by omega)
        obtain rfl : S - 1 = k := by omega
        have RW := Lib.hid (show RM r rp WT wr by rw [← HT.out]; exact RK.out)
        go_wp2
        go_ret2
        exact ⟨rfl, RW.out, UK.out⟩
end Go.Proofs.Ytmgpimibnogcaaa
