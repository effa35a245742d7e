/-
  CUT and joined from the texts of this seat: Jd
-/
import Derived.Test.YtmaknddlgppinaaGreatDoorY01
import Derived.Test.YtmaknddlgppinaaGreatDoorY28
import Derived.Test.YtmaknddlgppinaaGreatDoorY30
set_option linter.unusedVariables false
set_option linter.unusedSimpArgs false
namespace Go.Proofs.YtmaknddlgppinaaGreatDoor
open Go.RowKit
theorem und22 : Tryz.prog.underlying 22 = some (.slice 94) := by kernel_rfl
theorem info94 : ∃ i, Tryz.prog.info? 94 = some i ∧ i.zero = some (.agg #[.slice none 0 0, .int .i64 0, .int .i64 0, .int .i64 0, .slice none 0 0, .slice none 0 0, .slice none 0 0]) ∧ i.size = 7 ∧ i.bytes = 120 := info_parts (by kernel_rfl)
/-- The files so far, and the names of a class's interfaces. -/
structure St (w0 : World) (vout : Value) (fs : List Fl) (vifs : Value) (l : List ByteArray) (w : World) : Prop where
 fs : OwnFs w w0.heap.size vout fs
 ifs : w.ownsRow w0.heap.size 9 1 vifs l.length (scells l)
 bel : Below w0.heap.size w0 w
 ge : w0.heap.size ≤ w.heap.size
theorem St.below {w0 w w' : World} {vout vifs : Value} {fs : List Fl} {l : List ByteArray} (h : St w0 vout fs vifs l w) (hb : Below w.heap.size w w') : St w0 vout fs vifs l w' :=
 ⟨h.fs.below hb, hown_below h.ifs hb, h.bel.trans (hb.mono h.ge), Nat.le_trans h.ge hb.size⟩
theorem St.push {w0 w : World} {vout vifs : Value} {fs : List Fl} {l : List ByteArray} (h : St w0 vout fs vifs l w) (o : Obj) : St w0 vout fs vifs l (w.alloc o) := h.below ((Below.refl _ _).alloc (Nat.le_refl _) o)
theorem arr_at {w : World} {ab : Nat} (h : w.heap[ab]? = some (.cells #[.int .i64 0, .int .i64 0, .int .i64 2, .int .i64 3] 3 (0, 0))) (c : Int) : w.cell? ⟨ab, pickN c 4, none⟩ = some (.int .i64 (flR c)) := by
 have hlt := pickN_lt c (n := 4) (by decide)
 rw [kcells_of h]
 unfold flR
 generalize pickN c 4 = k at hlt
 have : k = 0 ∨ k = 1 ∨ k = 2 ∨ k = 3 := by omega
 rcases this with rfl | rfl | rfl | rfl <;> rfl
set_option maxRecDepth 1000000 in
set_option maxHeartbeats 12800000 in
theorem files_any {B : Nat} (rs : List Rw) (v : Value) (w : World) (hr : RawsRow B w v rs) (hB : B ≤ w.heap.size) :
  Calls Tryz.prog 17 #[v] w fun e w' => ∃ v', e = .returned v' ∧ OwnFs w' w.heap.size v' (filesR rs) ∧ Below w.heap.size w w' := by
 obtain ⟨A, cap, rfl, hcap, hmax⟩ := hr.form
 have HR := Lib.hid hr
 obtain ⟨i94, hi94, hz94, hs94, hy94⟩ := info94
 obtain ⟨i9, hi9, hz9, hs9, hy9⟩ := info9
 clear hr
 obtain ⟨N, hN⟩ : ∃ N, N = min rs.length 70 := ⟨_, rfl⟩
 have hN1 : N ≤ rs.length := by omega
 have hN2 : N ≤ 70 := by omega
 have hN3 : N < rs.length → 70 ≤ N := by omega
 have HNN := Lib.hid hN
 clear hN
 go_enter Tryz.func17, Tryz.ntmps17
 go_wp2
 go_loopg [3, 4] N (fun gk vv iv wx => ∃ (j : Nat) (aout : Option Addr) (cout : Nat), iv = .int .i64 j ∧ vv = .slice aout j cout ∧ j + gk = N ∧ OwnFs wx w.heap.size vv ((rs.take j).map fileR) ∧ Below w.heap.size w wx)
 case atStart => exact ⟨0, none, 0, rfl, rfl, by omega, OwnFs.nil _ _, Below.refl _ _⟩
 case round =>
  obtain ⟨j, aout, cout, rfl, rfl, hjg, hfs, hbx⟩ := hrel
  have HFS := Lib.hid hfs
  have HBX := Lib.hid hbx
  have hbs := hbx.size
  by_cases hj : j < N
  ·have hgg : gk - 1 < gk := by omega
   have hj1 : j < rs.length := by omega
   have hj2 : j < 70 := by omega
   obtain ⟨r, hrj⟩ : ∃ r, rs[j]? = some r := ⟨_, List.getElem?_eq_getElem hj1⟩
   obtain ⟨b, o, Ai, ci, rfl, hb, p0, p1, p2, p3, hir⟩ := (HR.out.keep (fun p hp => hbx.cell (p := p) (by omega))).at_ hrj
   have HIR := Lib.hid hir
   have HRJ := Lib.hid hrj
   have hok := HR.out.ok r (List.mem_of_getElem? hrj)
   have HOK := Lib.hid hok
   obtain ⟨M, hM⟩ : ∃ M, M = min r.ifs.length 4 := ⟨_, rfl⟩
   have hM1 : M ≤ r.ifs.length := by omega
   have hM2 : M ≤ 4 := by omega
   have hM3 : M < r.ifs.length → 4 ≤ M := by omega
   have HMM := Lib.hid hM
   clear hM
   clear hfs hbx hir hrj hok
   obtain ⟨wo, hwo⟩ : ∃ x, x = wr := ⟨_, rfl⟩
   subst hwo
   obtain ⟨g1, hg1⟩ : ∃ x, x = gk := ⟨_, rfl⟩
   subst hg1
   go_wp2
   simp only [show decide ((j : Int) < 70) = true from decide_eq_true (by omega)]
   go_loopg [5, 6] M (fun gk v5 iv wx => ∃ (k : Nat) (ss : List ByteArray), iv = .int .i64 k ∧ k + gk = M ∧ ss = (r.ifs.take k).map nmR ∧ wx.ownsRow wo.heap.size 9 1 v5 ss.length (scells ss) ∧ Below wo.heap.size wo wx)
   case atStart => exact ⟨0, [], rfl, by omega, rfl, World.ownsRow_nil _ _ _ _, Below.refl _ _⟩
   case round =>
    obtain ⟨k, ss, rfl, hkg, hss, hown, hbw⟩ := hrel
    have HOWN := Lib.hid hown
    have HBW := Lib.hid hbw
    have hbws := hbw.size
    have hsl : ss.length = k := by rw [hss]; simp; omega
    have HSS := Lib.hid hss
    obtain ⟨a5, c5, rfl⟩ := hown_form hown
    rw [hsl]
    have q0 : wr.cell? ⟨b, o + j * 4, none⟩ = some (.int .i64 r.fl) := (hbw.cell (p := ⟨b, o + j * 4, none⟩) (by show b < _; omega)).trans p0
    have q1 : wr.cell? ⟨b, o + j * 4 + 1, none⟩ = some (.int .i64 r.nm) := (hbw.cell (p := ⟨b, o + j * 4 + 1, none⟩) (by show b < _; omega)).trans p1
    have q2 : wr.cell? ⟨b, o + j * 4 + 2, none⟩ = some (.int .i64 r.sp) := (hbw.cell (p := ⟨b, o + j * 4 + 2, none⟩) (by show b < _; omega)).trans p2
    have q3 : wr.cell? ⟨b, o + j * 4 + 3, none⟩ = some (.slice Ai r.ifs.length ci) := (hbw.cell (p := ⟨b, o + j * 4 + 3, none⟩) (by show b < _; omega)).trans p3
    by_cases hk : k < M
    ·have hgg2 : gk - 1 < gk := by omega
     have hk1 : k < r.ifs.length := by omega
     have hk2 : k < 4 := by omega
     obtain ⟨z, hz⟩ : ∃ z, r.ifs[k]? = some z := ⟨_, List.getElem?_eq_getElem hk1⟩
     obtain ⟨bi, oi, rfl, hbi, hci⟩ := IRow.at_ (HIR.out) hz
     have z0 : wr.cell? ⟨bi, oi + k, none⟩ = some (.int .i64 z) := (hbw.cell (p := ⟨bi, oi + k, none⟩) (by show bi < _; omega)).trans hci
     have HZ := Lib.hid hz
     have NM := Lib.hid (fun W => name_any z W (HOK.out.ifs z (List.mem_of_getElem? hz)))
     clear hown hbw hss hz hci
     go_wp2_with fail
     refine (NM.out _).mono ?_
     rintro e wi ⟨rfl, hbi2⟩
     have OW := Lib.hid (hown_below HOWN.out hbi2)
     have HBI := Lib.hid (HBW.out.trans (hbi2.mono hbws))
     have hwiz := hbi2.size
     clear hbi2
     go_wp2_with (at_builtin; refine hwpList_append_own2 rfl (.tmp 31) (.tmp 41) 45 rfl wo.heap.size 9 i9 (.string ⟨#[]⟩) 1 16 und45c hi9 hz9 hs9 hy9 rfl (by decide) (.slice a5 k c5) k _ rfl (by have := World.ownsRow.alloc OW.out (.cells #[.string (nmR z)] 9); rw [hsl] at this; exact this) ⟨_, 0, none⟩ 1 1 [.string (nmR z)] rfl rfl (knew_at _ [.string (nmR z)] 9 _ (by simp)) (fun u hu => by simp at hu; subst hu; rfl) (by unfold maxLen; omega) (by omega) (by simp; omega) ?_; intro v3 w3 own3 hg3 hm3; have B3 := Below.grown (HBI.out.alloc (by omega) _) hg3 (by simp; omega) (fun q hq => hown_block_ge OW.out q (by rw [hsl]; exact hq)); obtain ⟨a3, c3, rfl⟩ := hown_form own3; have OW3 := Lib.hid own3; have BB3 := Lib.hid B3; clear own3 hg3 hm3 B3)
     go_roundg (gk - 1)
     case measure => exact hgg2
     case rel =>
      have hl2 : ((r.ifs.take (k + 1)).map nmR) = ss ++ [nmR z] := by rw [HSS.out, List.take_add_one, HZ.out]; simp
      refine ⟨k + 1, (r.ifs.take (k + 1)).map nmR, by go_num, by omega, rfl, ?_, BB3.out⟩
      rw [hl2, List.length_append, List.length_singleton, hsl]
      have := OW3.out
      unfold scells at this ⊢
      rw [List.map_append]
      exact this
    ·obtain rfl : M = k := by omega
     have hssl : ss = ifnR r := by
      rw [hss, HMM.out]
      unfold ifnR
      congr 1
      by_cases h4 : r.ifs.length ≤ 4
      ·rw [show min r.ifs.length 4 = r.ifs.length by omega, List.take_length, List.take_of_length_le h4]
      ·rw [show min r.ifs.length 4 = 4 by omega]
     have hfl : ((rs.take j).map fileR).length = j := by simp; omega
     have HFL := Lib.hid hfl
     have T0 : St w (.slice aout j cout) ((rs.take j).map fileR) (.slice a5 M c5) (ifnR r) wr := by
      refine ⟨HFS.out.below hbw, ?_, HBX.out.trans (hbw.mono hbs), by omega⟩
      have := hown_mono hown hbs
      rw [hsl] at this
      rw [← hssl]
      rw [hsl]
      exact this
     have hIL : (ifnR r).length = M := by rw [← hssl]; exact hsl
     have TT := Lib.hid T0
     have PKf := Lib.hid (fun W => pick_any r.fl 4 W HOK.out.fl (by decide) (by decide))
     have NMf := Lib.hid (fun W => name_any r.nm W HOK.out.nm)
     have SPf := Lib.hid (fun W => name_any r.sp W HOK.out.sp)
     have ARR := Lib.hid (fun (W : World) (ab : Nat) (h : W.heap[ab]? = some (.cells #[.int .i64 0, .int .i64 0, .int .i64 2, .int .i64 3] 3 (0, 0))) => arr_at h r.fl)
     have FLf := Lib.hid (fun W (h : St w (.slice aout j cout) ((rs.take j).map fileR) (.slice a5 M c5) (ifnR r) W) => file_any (flR r.fl) (nmR r.nm) (nmR r.sp) (ifnR r) (.slice a5 M c5) W (Row.hof_own h.ifs) (Nat.le_refl _) (by rw [hIL]; omega))
     have FRO := Lib.hid (fun (W : World) (vp vi : Value) (h1 : W.ownsRow w.heap.size 138 6 vp (4 + 2 * (ifnR r).length) ((poolR (nmR r.nm) (nmR r.sp) (ifnR r)).flatMap ccells)) (h2 : W.ownsRow w.heap.size 3 1 vi (ifnR r).length (iccells (ifsR (ifnR r).length))) => fileR_own (w0 := W) (fl := flR r.fl) (r := r) rfl h1 h2)
     have HIL := Lib.hid hIL
     clear hIL
     have hpk := pickN_lt r.fl (n := 4) (by decide)
     generalize pickN r.fl 4 = pk at PKf ARR hpk
     generalize flR r.fl = F at ARR FLf FRO
     have hpk2 : ((pk : Nat) : Int) < 4 := by omega
     have hbw0 : b < w.heap.size := by omega
     have TKE := Lib.hid (show (rs.take (j + 1)).map fileR = (rs.take j).map fileR ++ [fileR r] by rw [List.take_add_one, HRJ.out]; simp)
     have hbk := hbw0
     have u0 := (HBX.out.cell (p := ⟨b, o + j * 4, none⟩) hbk).symm.trans p0
     have u1 := (HBX.out.cell (p := ⟨b, o + j * 4 + 1, none⟩) hbk).symm.trans p1
     have u2 := (HBX.out.cell (p := ⟨b, o + j * 4 + 2, none⟩) hbk).symm.trans p2
     have T0 := T0.below (Below.refl wr.heap.size wr).drew
     clear hown hbw hss hssl
     go_upto_region 7 with fail
     go_cut [28] (fun v wx => v = .bool false ∧ wx = wr)
     case first =>
      go_wp2
      all_goals (go_meet; case rel => exact ⟨by first | rfl | (congr 1; simp; omega), rfl⟩)
     obtain ⟨rfl, hwc⟩ := hcut
     subst hwc
     go_wp2
     refine wp_region_held_drew (S := fun V => Below w.heap.size w V) (by kernel_rfl) T0.bel (fun hS0 => ?_)
     refine wpAnyH_take (i := 0) (oi := _) (v := ?v1) rfl (by kernel_rfl) (by kernel_rfl) (by kernel_rfl) (fun _ _ _ h => h) (Or.inl ⟨by rfl, ?hy1⟩) hS0 ?_
     case hy1 => (intro V hSw; go_simp; try with_reducible rfl)
     try simp only [pu0, puN, pu1, pu2, pu3]
     refine wpAnyH_take (i := 2) (oi := _) (v := ?v2) rfl (by kernel_rfl) (by kernel_rfl) (by kernel_rfl) (fun _ _ _ h => h) (Or.inl ⟨by rfl, ?hy2⟩) hS0 ?_
     case hy2 => (intro V hSw; go_simp; try with_reducible rfl)
     try simp only [pu0, puN, pu1, pu2, pu3]
     refine wpAnyH_take (i := 3) (oi := _) (v := ?v3) rfl (by kernel_rfl) (by kernel_rfl) (by kernel_rfl) (fun _ _ _ h => h) (Or.inl ⟨by rfl, ?hy3⟩) hS0 ?_
     case hy3 => (intro V hSw; go_simp; try with_reducible rfl)
     try simp only [pu0, puN, pu1, pu2, pu3]
     refine wpAnyH_take (i := 4) (oi := _) (v := ?v4) rfl (by kernel_rfl) (by kernel_rfl) (by kernel_rfl) (fun _ _ _ h => h) (Or.inl ⟨by rfl, ?hy4⟩) hS0 ?_
     case hy4 => (intro V hSw; go_simp; try with_reducible rfl)
     try simp only [pu0, puN, pu1, pu2, pu3]
     refine wpAnyH_take (i := 5) (oi := _) (v := ?v5) rfl (by kernel_rfl) (by kernel_rfl) (by kernel_rfl) (fun _ _ _ h => h) (Or.inl ⟨by rfl, ?hy5⟩) hS0 ?_
     case hy5 => (intro V hSw; go_simp; try with_reducible rfl)
     try simp only [pu0, puN, pu1, pu2, pu3]
     refine wpAnyH_take (i := 6) (oi := _) (v := ?v6) rfl (by kernel_rfl) (by kernel_rfl) (by kernel_rfl) (fun _ _ _ h => h) (Or.inl ⟨by rfl, ?hy6⟩) hS0 ?_
     case hy6 => (intro V hSw; have e0 := (hSw.cell (p := ⟨b, o + j * 4, none⟩) hbk).trans u0; have e1 := (hSw.cell (p := ⟨b, o + j * 4 + 1, none⟩) hbk).trans u1; have e2 := (hSw.cell (p := ⟨b, o + j * 4 + 2, none⟩) hbk).trans u2; go_simp; try with_reducible rfl)
     try simp only [pu0, puN, pu1, pu2, pu3]
     refine wpAnyH_take (i := 10) (oi := _) (v := ?v7) rfl (by kernel_rfl) (by kernel_rfl) (by kernel_rfl) (fun _ _ _ h => h) (Or.inl ⟨by rfl, ?hy7⟩) hS0 ?_
     case hy7 => (intro V hSw; go_simp; try with_reducible rfl)
     try simp only [pu0, puN, pu1, pu2, pu3]
     refine wpAnyH_take (i := 11) (oi := _) (v := ?v8) rfl (by kernel_rfl) (by kernel_rfl) (by kernel_rfl) (fun _ _ _ h => h) (Or.inl ⟨by rfl, ?hy8⟩) hS0 ?_
     case hy8 => (intro V hSw; go_simp; try with_reducible rfl)
     try simp only [pu0, puN, pu1, pu2, pu3]
     refine wpAnyH_take (i := 12) (oi := _) (v := ?v9) rfl (by kernel_rfl) (by kernel_rfl) (by kernel_rfl) (fun _ _ _ h => h) (Or.inl ⟨by rfl, ?hy9⟩) hS0 ?_
     case hy9 => (intro V hSw; go_simp; try with_reducible rfl)
     try simp only [pu0, puN, pu1, pu2, pu3]
     refine wpAnyH_take (i := 13) (oi := _) (v := ?v10) rfl (by kernel_rfl) (by kernel_rfl) (by kernel_rfl) (fun _ _ _ h => h) (Or.inl ⟨by rfl, ?hy10⟩) hS0 ?_
     case hy10 => (intro V hSw; go_simp; try with_reducible rfl)
     try simp only [pu0, puN, pu1, pu2, pu3]
     refine wpAnyH_take (i := 14) (oi := _) (v := ?v11) rfl (by kernel_rfl) (by kernel_rfl) (by kernel_rfl) (fun _ _ _ h => h) (Or.inl ⟨by rfl, ?hy11⟩) hS0 ?_
     case hy11 => (intro V hSw; have e0 := (hSw.cell (p := ⟨b, o + j * 4, none⟩) hbk).trans u0; have e1 := (hSw.cell (p := ⟨b, o + j * 4 + 1, none⟩) hbk).trans u1; have e2 := (hSw.cell (p := ⟨b, o + j * 4 + 2, none⟩) hbk).trans u2; go_simp; try with_reducible rfl)
     try simp only [pu0, puN, pu1, pu2, pu3]
     refine wpAnyH_take (i := 16) (oi := _) (v := ?v12) rfl (by kernel_rfl) (by kernel_rfl) (by kernel_rfl) (fun _ _ _ h => h) (Or.inl ⟨by rfl, ?hy12⟩) hS0 ?_
     case hy12 => (intro V hSw; go_simp; try with_reducible rfl)
     try simp only [pu0, puN, pu1, pu2, pu3]
     refine wpAnyH_take (i := 17) (oi := _) (v := ?v13) rfl (by kernel_rfl) (by kernel_rfl) (by kernel_rfl) (fun _ _ _ h => h) (Or.inl ⟨by rfl, ?hy13⟩) hS0 ?_
     case hy13 => (intro V hSw; go_simp; try with_reducible rfl)
     try simp only [pu0, puN, pu1, pu2, pu3]
     refine wpAnyH_take (i := 18) (oi := _) (v := ?v14) rfl (by kernel_rfl) (by kernel_rfl) (by kernel_rfl) (fun _ _ _ h => h) (Or.inl ⟨by rfl, ?hy14⟩) hS0 ?_
     case hy14 => (intro V hSw; go_simp; try with_reducible rfl)
     try simp only [pu0, puN, pu1, pu2, pu3]
     refine wpAnyH_take (i := 19) (oi := _) (v := ?v15) rfl (by kernel_rfl) (by kernel_rfl) (by kernel_rfl) (fun _ _ _ h => h) (Or.inl ⟨by rfl, ?hy15⟩) hS0 ?_
     case hy15 => (intro V hSw; go_simp; try with_reducible rfl)
     try simp only [pu0, puN, pu1, pu2, pu3]
     refine wpAnyH_take (i := 20) (oi := _) (v := ?v16) rfl (by kernel_rfl) (by kernel_rfl) (by kernel_rfl) (fun _ _ _ h => h) (Or.inl ⟨by rfl, ?hy16⟩) hS0 ?_
     case hy16 => (intro V hSw; have e0 := (hSw.cell (p := ⟨b, o + j * 4, none⟩) hbk).trans u0; have e1 := (hSw.cell (p := ⟨b, o + j * 4 + 1, none⟩) hbk).trans u1; have e2 := (hSw.cell (p := ⟨b, o + j * 4 + 2, none⟩) hbk).trans u2; go_simp; try with_reducible rfl)
     try simp only [pu0, puN, pu1, pu2, pu3]
     refine wpAnyH_take (i := 22) (oi := _) (v := ?v17) rfl (by kernel_rfl) (by kernel_rfl) (by kernel_rfl) (fun _ _ _ h => h) (Or.inl ⟨by rfl, ?hy17⟩) hS0 ?_
     case hy17 => (intro V hSw; go_simp; try with_reducible rfl)
     try simp only [pu0, puN, pu1, pu2, pu3]
     refine wpAnyH_ready (rs := [1, 7]) (by kernel_rfl) (by simp) ?_
     refine (AllReadyH.cons (o := _) rfl (fun K hK => ?_) (AllReadyH.cons (o := _) rfl (fun K hK => ?_) AllReadyH.nil))
     ·go_simp
      have T1 := T0.push (.cells #[.int .i64 0, .int .i64 0, .int .i64 2, .int .i64 3] 3)
      refine hK.out _ _ T1.bel (fun hS1 => ?_)
      clear hK K
      try simp only [pu0, puN, pu1, pu2, pu3]
      refine wpAnyH_ready (rs := [7]) (by kernel_rfl) (by simp) ?_
      refine (AllReadyH.cons (o := _) rfl (fun K hK => ?_) AllReadyH.nil)
      ·go_simp
       go_at_call 62
       refine (PKf.out _).mono ?_
       rintro e wi0 ⟨rfl, hw0⟩
       subst hw0
       try go_wp2_with fail
       refine hK.out _ _ T1.bel (fun hS2 => ?_)
       clear hK K
       try simp only [pu0, puN, pu1, pu2, pu3]
       have T2 := T1
       refine wpAnyH_take (i := 8) (oi := _) (v := ?v18) rfl (by kernel_rfl) (by kernel_rfl) (by kernel_rfl) (fun _ _ _ h => h) (Or.inl ⟨by rfl, ?hy18⟩) T2.bel ?_
       case hy18 => (intro V hSw; go_simp; first | exact rfl | exact if_pos hpk2; try with_reducible rfl)
       try simp only [pu0, puN, pu1, pu2, pu3]
       refine wpAnyH_ready (rs := [9, 15]) (by kernel_rfl) (by simp) ?_
       refine (AllReadyH.cons (o := _) rfl (fun K hK => ?_) (AllReadyH.cons (o := _) rfl (fun K hK => ?_) AllReadyH.nil))
       ·have n9 := ARR.out _ _ (hheap_new wc (.cells #[.int .i64 0, .int .i64 0, .int .i64 2, .int .i64 3] 3))
        go_simp
        refine hK.out _ _ T2.bel (fun hS3 => ?_)
        clear hK K
        try simp only [pu0, puN, pu1, pu2, pu3]
        have T3 := T2
        refine wpAnyH_ready (rs := [15]) (by kernel_rfl) (by simp) ?_
        refine (AllReadyH.cons (o := _) rfl (fun K hK => ?_) AllReadyH.nil)
        ·go_simp
         go_at_call 61
         refine (NMf.out _).mono ?_
         rintro e wi1 ⟨rfl, hb1⟩
         have nb := lalloc_facts0 hb1
         try go_wp2_with fail
         have T4 := T3.below hb1
         refine hK.out _ _ T4.bel (fun hS4 => ?_)
         clear hK K
         try simp only [pu0, puN, pu1, pu2, pu3]
         refine wpAnyH_ready (rs := [21]) (by kernel_rfl) (by simp) ?_
         refine (AllReadyH.cons (o := _) rfl (fun K hK => ?_) AllReadyH.nil)
         ·go_simp
          go_at_call 61
          refine (SPf.out _).mono ?_
          rintro e wi2 ⟨rfl, hb2⟩
          have nb := lkeep_facts hb2 nb
          try go_wp2_with fail
          have T5 := T4.below hb2
          refine hK.out _ _ T5.bel (fun hS5 => ?_)
          clear hK K
          try simp only [pu0, puN, pu1, pu2, pu3]
          refine wpAnyH_ready (rs := [23]) (by kernel_rfl) (by simp) ?_
          refine (AllReadyH.cons (o := _) rfl (fun K hK => ?_) AllReadyH.nil)
          ·go_simp
           go_at_call 57
           refine (FLf.out _ T5).mono ?_
           rintro e wf ⟨vp, vi, rfl, hp, hq, hbf⟩
           try go_wp2_with fail
           have T6 := T5.below hbf
           have hpo := hown_mono hp T5.ge
           have hqo := hown_mono hq T5.ge
           obtain ⟨app, cpp, rfl⟩ := hown_form hp
           obtain ⟨aqq, cqq, rfl⟩ := hown_form hq
           refine hK.out _ _ T6.bel (fun hS6 => ?_)
           clear hK K
           try simp only [pu0, puN, pu1, pu2, pu3]
           refine wpAnyH_ready (rs := [24]) (by kernel_rfl) (by simp) ?_
           refine (AllReadyH.cons (o := _) rfl (fun K hK => ?_) AllReadyH.nil)
           go_simp
           have T7 := T6.push (.cells #[.slice app (4 + 2 * (ifnR r).length) cpp, .int .i64 F, .int .i64 2, .int .i64 4, .slice aqq (ifnR r).length cqq, .slice none 0 0, .slice none 0 0] 94)
           refine hK.out _ _ T7.bel (fun hS7 => ?_)
           clear hK K
           try simp only [pu0, puN, pu1, pu2, pu3]
           refine wpAnyH_ready (rs := [25]) (by kernel_rfl) (by simp) ?_
           refine (AllReadyH.cons (o := _) rfl (fun K hK => ?_) AllReadyH.nil)
           obtain ⟨vs, v1, v2, v3⟩ := T7.fs
           refine hwp_append_own2 (.tmp 43) (.tmp 67) 22 (by rfl) w.heap.size 94 i94 _ 7 120 und22 hi94 hz94 hs94 hy94 rfl (by decide) (.slice aout j cout) _ _ (by rfl) v3 ⟨wf.heap.size, 0, none⟩ 1 1 (aggs (.agg #[.slice app (4 + 2 * (ifnR r).length) cpp, .int .i64 F, .int .i64 2, .int .i64 4, .slice aqq (ifnR r).length cqq, .slice none 0 0, .slice none 0 0])) (by rfl) rfl (knew_at _ _ 94 _ rfl) (fun u hu => by simp only [aggs, List.mem_cons, List.not_mem_nil, or_false] at hu; rcases hu with rfl | rfl | rfl | rfl | rfl | rfl | rfl <;> rfl) (by rw [hfl]; unfold maxLen; omega) (by rw [hfl]; omega) T7.ge ?_
           intro v' w' own' hg' hm'
           have FO := (FRO.out _ _ _ hpo hqo).below ((Below.refl _ wf).alloc (Nat.le_refl _) (.cells (aggs (.agg #[.slice app (4 + 2 * (ifnR r).length) cpp, .int .i64 F, .int .i64 2, .int .i64 4, .slice aqq (ifnR r).length cqq, .slice none 0 0, .slice none 0 0])).toArray 94))
           have FS := OwnFs.snoc v1 v2 v3 FO hg' own'
           have BS := Below.grown T7.bel hg' T7.ge (fun q hq => hown_block_ge v3 q hq)
           refine hK.out _ _ BS (fun hS8 => ?_)
           clear hK K
           try simp only [pu0, puN, pu1, pu2, pu3]
           refine wpAnyH_take (i := 26) (oi := ({ dst := some 3, op := Op.assign (Operand.tmp 68), type := 22, pos := "law.go:87", after := #[{ on := 25, ground := Ground.data }, { on := 25, ground := Ground.chain }, { on := 0, ground := Ground.phase }, { on := 1, ground := Ground.phase }, { on := 2, ground := Ground.phase }, { on := 3, ground := Ground.phase }, { on := 4, ground := Ground.phase }, { on := 5, ground := Ground.phase }, { on := 6, ground := Ground.phase }, { on := 7, ground := Ground.phase }, { on := 8, ground := Ground.phase }, { on := 9, ground := Ground.phase }, { on := 10, ground := Ground.phase }, { on := 11, ground := Ground.phase }, { on := 12, ground := Ground.phase }, { on := 13, ground := Ground.phase }, { on := 14, ground := Ground.phase }, { on := 15, ground := Ground.phase }, { on := 16, ground := Ground.phase }, { on := 17, ground := Ground.phase }, { on := 18, ground := Ground.phase }, { on := 19, ground := Ground.phase }, { on := 20, ground := Ground.phase }, { on := 21, ground := Ground.phase }, { on := 22, ground := Ground.phase }, { on := 23, ground := Ground.phase }, { on := 24, ground := Ground.phase }, { on := 25, ground := Ground.phase }], guard := none } : Oper)) (v := ?v19) rfl (by kernel_rfl) (by kernel_rfl) (by kernel_rfl) (fun _ _ _ h => h) (Or.inl ⟨by rfl, ?hy19⟩) BS ?_
           case hy19 => (intro V hSw; go_simp; try with_reducible rfl)
           try simp only [pu0, puN, pu1, pu2, pu3]
           refine wpAnyH_done (by kernel_rfl) ?_ _
           rw [HFL.out] at own'
           obtain ⟨a', c', rfl⟩ := hown_form own'
           have FSS := Lib.hid FS
           have BSS := Lib.hid BS
           clear FS BS own' hg' hm'
           go_wp2
           go_roundg (g1 - 1)
           case measure => exact hgg
           case rel => exact ⟨j + 1, _, _, by go_num, rfl, by omega, by rw [TKE.out]; exact FSS.out, BSS.out⟩
       ·go_simp
        go_at_call 61
        refine (NMf.out _).mono ?_
        rintro e wi1 ⟨rfl, hb1⟩
        have nb := lalloc_facts0 hb1
        try go_wp2_with fail
        have T3 := T2.below hb1
        refine hK.out _ _ T3.bel (fun hS3 => ?_)
        clear hK K
        try simp only [pu0, puN, pu1, pu2, pu3]
        refine wpAnyH_ready (rs := [9, 21]) (by kernel_rfl) (by simp) ?_
        refine (AllReadyH.cons (o := _) rfl (fun K hK => ?_) (AllReadyH.cons (o := _) rfl (fun K hK => ?_) AllReadyH.nil))
        ·have n9 := ARR.out _ _ nb
         go_simp
         refine hK.out _ _ T3.bel (fun hS4 => ?_)
         clear hK K
         try simp only [pu0, puN, pu1, pu2, pu3]
         have T4 := T3
         refine wpAnyH_ready (rs := [21]) (by kernel_rfl) (by simp) ?_
         refine (AllReadyH.cons (o := _) rfl (fun K hK => ?_) AllReadyH.nil)
         ·go_simp
          go_at_call 61
          refine (SPf.out _).mono ?_
          rintro e wi2 ⟨rfl, hb2⟩
          have nb := lkeep_facts hb2 nb
          try go_wp2_with fail
          have T5 := T4.below hb2
          refine hK.out _ _ T5.bel (fun hS5 => ?_)
          clear hK K
          try simp only [pu0, puN, pu1, pu2, pu3]
          refine wpAnyH_ready (rs := [23]) (by kernel_rfl) (by simp) ?_
          refine (AllReadyH.cons (o := _) rfl (fun K hK => ?_) AllReadyH.nil)
          ·go_simp
           go_at_call 57
           refine (FLf.out _ T5).mono ?_
           rintro e wf ⟨vp, vi, rfl, hp, hq, hbf⟩
           try go_wp2_with fail
           have T6 := T5.below hbf
           have hpo := hown_mono hp T5.ge
           have hqo := hown_mono hq T5.ge
           obtain ⟨app, cpp, rfl⟩ := hown_form hp
           obtain ⟨aqq, cqq, rfl⟩ := hown_form hq
           refine hK.out _ _ T6.bel (fun hS6 => ?_)
           clear hK K
           try simp only [pu0, puN, pu1, pu2, pu3]
           refine wpAnyH_ready (rs := [24]) (by kernel_rfl) (by simp) ?_
           refine (AllReadyH.cons (o := _) rfl (fun K hK => ?_) AllReadyH.nil)
           go_simp
           have T7 := T6.push (.cells #[.slice app (4 + 2 * (ifnR r).length) cpp, .int .i64 F, .int .i64 2, .int .i64 4, .slice aqq (ifnR r).length cqq, .slice none 0 0, .slice none 0 0] 94)
           refine hK.out _ _ T7.bel (fun hS7 => ?_)
           clear hK K
           try simp only [pu0, puN, pu1, pu2, pu3]
           refine wpAnyH_ready (rs := [25]) (by kernel_rfl) (by simp) ?_
           refine (AllReadyH.cons (o := _) rfl (fun K hK => ?_) AllReadyH.nil)
           obtain ⟨vs, v1, v2, v3⟩ := T7.fs
           refine hwp_append_own2 (.tmp 43) (.tmp 67) 22 (by rfl) w.heap.size 94 i94 _ 7 120 und22 hi94 hz94 hs94 hy94 rfl (by decide) (.slice aout j cout) _ _ (by rfl) v3 ⟨wf.heap.size, 0, none⟩ 1 1 (aggs (.agg #[.slice app (4 + 2 * (ifnR r).length) cpp, .int .i64 F, .int .i64 2, .int .i64 4, .slice aqq (ifnR r).length cqq, .slice none 0 0, .slice none 0 0])) (by rfl) rfl (knew_at _ _ 94 _ rfl) (fun u hu => by simp only [aggs, List.mem_cons, List.not_mem_nil, or_false] at hu; rcases hu with rfl | rfl | rfl | rfl | rfl | rfl | rfl <;> rfl) (by rw [hfl]; unfold maxLen; omega) (by rw [hfl]; omega) T7.ge ?_
           intro v' w' own' hg' hm'
           have FO := (FRO.out _ _ _ hpo hqo).below ((Below.refl _ wf).alloc (Nat.le_refl _) (.cells (aggs (.agg #[.slice app (4 + 2 * (ifnR r).length) cpp, .int .i64 F, .int .i64 2, .int .i64 4, .slice aqq (ifnR r).length cqq, .slice none 0 0, .slice none 0 0])).toArray 94))
           have FS := OwnFs.snoc v1 v2 v3 FO hg' own'
           have BS := Below.grown T7.bel hg' T7.ge (fun q hq => hown_block_ge v3 q hq)
           refine hK.out _ _ BS (fun hS8 => ?_)
           clear hK K
           try simp only [pu0, puN, pu1, pu2, pu3]
           refine wpAnyH_take (i := 26) (oi := ({ dst := some 3, op := Op.assign (Operand.tmp 68), type := 22, pos := "law.go:87", after := #[{ on := 25, ground := Ground.data }, { on := 25, ground := Ground.chain }, { on := 0, ground := Ground.phase }, { on := 1, ground := Ground.phase }, { on := 2, ground := Ground.phase }, { on := 3, ground := Ground.phase }, { on := 4, ground := Ground.phase }, { on := 5, ground := Ground.phase }, { on := 6, ground := Ground.phase }, { on := 7, ground := Ground.phase }, { on := 8, ground := Ground.phase }, { on := 9, ground := Ground.phase }, { on := 10, ground := Ground.phase }, { on := 11, ground := Ground.phase }, { on := 12, ground := Ground.phase }, { on := 13, ground := Ground.phase }, { on := 14, ground := Ground.phase }, { on := 15, ground := Ground.phase }, { on := 16, ground := Ground.phase }, { on := 17, ground := Ground.phase }, { on := 18, ground := Ground.phase }, { on := 19, ground := Ground.phase }, { on := 20, ground := Ground.phase }, { on := 21, ground := Ground.phase }, { on := 22, ground := Ground.phase }, { on := 23, ground := Ground.phase }, { on := 24, ground := Ground.phase }, { on := 25, ground := Ground.phase }], guard := none } : Oper)) (v := ?v20) rfl (by kernel_rfl) (by kernel_rfl) (by kernel_rfl) (fun _ _ _ h => h) (Or.inl ⟨by rfl, ?hy20⟩) BS ?_
           case hy20 => (intro V hSw; go_simp; try with_reducible rfl)
           try simp only [pu0, puN, pu1, pu2, pu3]
           refine wpAnyH_done (by kernel_rfl) ?_ _
           rw [HFL.out] at own'
           obtain ⟨a', c', rfl⟩ := hown_form own'
           have FSS := Lib.hid FS
           have BSS := Lib.hid BS
           clear FS BS own' hg' hm'
           go_wp2
           go_roundg (g1 - 1)
           case measure => exact hgg
           case rel => exact ⟨j + 1, _, _, by go_num, rfl, by omega, by rw [TKE.out]; exact FSS.out, BSS.out⟩
        ·go_simp
         go_at_call 61
         refine (SPf.out _).mono ?_
         rintro e wi2 ⟨rfl, hb2⟩
         have nb := lkeep_facts hb2 nb
         try go_wp2_with fail
         have T4 := T3.below hb2
         refine hK.out _ _ T4.bel (fun hS4 => ?_)
         clear hK K
         try simp only [pu0, puN, pu1, pu2, pu3]
         refine wpAnyH_ready (rs := [9]) (by kernel_rfl) (by simp) ?_
         refine (AllReadyH.cons (o := _) rfl (fun K hK => ?_) AllReadyH.nil)
         ·have n9 := ARR.out _ _ nb
          go_simp
          refine hK.out _ _ T4.bel (fun hS5 => ?_)
          clear hK K
          try simp only [pu0, puN, pu1, pu2, pu3]
          have T5 := T4
          refine wpAnyH_ready (rs := [23]) (by kernel_rfl) (by simp) ?_
          refine (AllReadyH.cons (o := _) rfl (fun K hK => ?_) AllReadyH.nil)
          ·go_simp
           go_at_call 57
           refine (FLf.out _ T5).mono ?_
           rintro e wf ⟨vp, vi, rfl, hp, hq, hbf⟩
           try go_wp2_with fail
           have T6 := T5.below hbf
           have hpo := hown_mono hp T5.ge
           have hqo := hown_mono hq T5.ge
           obtain ⟨app, cpp, rfl⟩ := hown_form hp
           obtain ⟨aqq, cqq, rfl⟩ := hown_form hq
           refine hK.out _ _ T6.bel (fun hS6 => ?_)
           clear hK K
           try simp only [pu0, puN, pu1, pu2, pu3]
           refine wpAnyH_ready (rs := [24]) (by kernel_rfl) (by simp) ?_
           refine (AllReadyH.cons (o := _) rfl (fun K hK => ?_) AllReadyH.nil)
           go_simp
           have T7 := T6.push (.cells #[.slice app (4 + 2 * (ifnR r).length) cpp, .int .i64 F, .int .i64 2, .int .i64 4, .slice aqq (ifnR r).length cqq, .slice none 0 0, .slice none 0 0] 94)
           refine hK.out _ _ T7.bel (fun hS7 => ?_)
           clear hK K
           try simp only [pu0, puN, pu1, pu2, pu3]
           refine wpAnyH_ready (rs := [25]) (by kernel_rfl) (by simp) ?_
           refine (AllReadyH.cons (o := _) rfl (fun K hK => ?_) AllReadyH.nil)
           obtain ⟨vs, v1, v2, v3⟩ := T7.fs
           refine hwp_append_own2 (.tmp 43) (.tmp 67) 22 (by rfl) w.heap.size 94 i94 _ 7 120 und22 hi94 hz94 hs94 hy94 rfl (by decide) (.slice aout j cout) _ _ (by rfl) v3 ⟨wf.heap.size, 0, none⟩ 1 1 (aggs (.agg #[.slice app (4 + 2 * (ifnR r).length) cpp, .int .i64 F, .int .i64 2, .int .i64 4, .slice aqq (ifnR r).length cqq, .slice none 0 0, .slice none 0 0])) (by rfl) rfl (knew_at _ _ 94 _ rfl) (fun u hu => by simp only [aggs, List.mem_cons, List.not_mem_nil, or_false] at hu; rcases hu with rfl | rfl | rfl | rfl | rfl | rfl | rfl <;> rfl) (by rw [hfl]; unfold maxLen; omega) (by rw [hfl]; omega) T7.ge ?_
           intro v' w' own' hg' hm'
           have FO := (FRO.out _ _ _ hpo hqo).below ((Below.refl _ wf).alloc (Nat.le_refl _) (.cells (aggs (.agg #[.slice app (4 + 2 * (ifnR r).length) cpp, .int .i64 F, .int .i64 2, .int .i64 4, .slice aqq (ifnR r).length cqq, .slice none 0 0, .slice none 0 0])).toArray 94))
           have FS := OwnFs.snoc v1 v2 v3 FO hg' own'
           have BS := Below.grown T7.bel hg' T7.ge (fun q hq => hown_block_ge v3 q hq)
           refine hK.out _ _ BS (fun hS8 => ?_)
           clear hK K
           try simp only [pu0, puN, pu1, pu2, pu3]
           refine wpAnyH_take (i := 26) (oi := ({ dst := some 3, op := Op.assign (Operand.tmp 68), type := 22, pos := "law.go:87", after := #[{ on := 25, ground := Ground.data }, { on := 25, ground := Ground.chain }, { on := 0, ground := Ground.phase }, { on := 1, ground := Ground.phase }, { on := 2, ground := Ground.phase }, { on := 3, ground := Ground.phase }, { on := 4, ground := Ground.phase }, { on := 5, ground := Ground.phase }, { on := 6, ground := Ground.phase }, { on := 7, ground := Ground.phase }, { on := 8, ground := Ground.phase }, { on := 9, ground := Ground.phase }, { on := 10, ground := Ground.phase }, { on := 11, ground := Ground.phase }, { on := 12, ground := Ground.phase }, { on := 13, ground := Ground.phase }, { on := 14, ground := Ground.phase }, { on := 15, ground := Ground.phase }, { on := 16, ground := Ground.phase }, { on := 17, ground := Ground.phase }, { on := 18, ground := Ground.phase }, { on := 19, ground := Ground.phase }, { on := 20, ground := Ground.phase }, { on := 21, ground := Ground.phase }, { on := 22, ground := Ground.phase }, { on := 23, ground := Ground.phase }, { on := 24, ground := Ground.phase }, { on := 25, ground := Ground.phase }], guard := none } : Oper)) (v := ?v21) rfl (by kernel_rfl) (by kernel_rfl) (by kernel_rfl) (fun _ _ _ h => h) (Or.inl ⟨by rfl, ?hy21⟩) BS ?_
           case hy21 => (intro V hSw; go_simp; try with_reducible rfl)
           try simp only [pu0, puN, pu1, pu2, pu3]
           refine wpAnyH_done (by kernel_rfl) ?_ _
           rw [HFL.out] at own'
           obtain ⟨a', c', rfl⟩ := hown_form own'
           have FSS := Lib.hid FS
           have BSS := Lib.hid BS
           clear FS BS own' hg' hm'
           go_wp2
           go_roundg (g1 - 1)
           case measure => exact hgg
           case rel => exact ⟨j + 1, _, _, by go_num, rfl, by omega, by rw [TKE.out]; exact FSS.out, BSS.out⟩
     ·go_simp
      go_at_call 62
      refine (PKf.out _).mono ?_
      rintro e wi0 ⟨rfl, hw0⟩
      subst hw0
      try go_wp2_with fail
      refine hK.out _ _ T0.bel (fun hS1 => ?_)
      clear hK K
      try simp only [pu0, puN, pu1, pu2, pu3]
      have T1 := T0
      refine wpAnyH_ready (rs := [1, 15]) (by kernel_rfl) (by simp) ?_
      refine (AllReadyH.cons (o := _) rfl (fun K hK => ?_) (AllReadyH.cons (o := _) rfl (fun K hK => ?_) AllReadyH.nil))
      ·go_simp
       have T2 := T1.push (.cells #[.int .i64 0, .int .i64 0, .int .i64 2, .int .i64 3] 3)
       refine hK.out _ _ T2.bel (fun hS2 => ?_)
       clear hK K
       try simp only [pu0, puN, pu1, pu2, pu3]
       refine wpAnyH_take (i := 8) (oi := _) (v := ?v22) rfl (by kernel_rfl) (by kernel_rfl) (by kernel_rfl) (fun _ _ _ h => h) (Or.inl ⟨by rfl, ?hy22⟩) T2.bel ?_
       case hy22 => (intro V hSw; go_simp; first | exact rfl | exact if_pos hpk2; try with_reducible rfl)
       try simp only [pu0, puN, pu1, pu2, pu3]
       refine wpAnyH_ready (rs := [9, 15]) (by kernel_rfl) (by simp) ?_
       refine (AllReadyH.cons (o := _) rfl (fun K hK => ?_) (AllReadyH.cons (o := _) rfl (fun K hK => ?_) AllReadyH.nil))
       ·have n9 := ARR.out _ _ (hheap_new wc (.cells #[.int .i64 0, .int .i64 0, .int .i64 2, .int .i64 3] 3))
        go_simp
        refine hK.out _ _ T2.bel (fun hS3 => ?_)
        clear hK K
        try simp only [pu0, puN, pu1, pu2, pu3]
        have T3 := T2
        refine wpAnyH_ready (rs := [15]) (by kernel_rfl) (by simp) ?_
        refine (AllReadyH.cons (o := _) rfl (fun K hK => ?_) AllReadyH.nil)
        ·go_simp
         go_at_call 61
         refine (NMf.out _).mono ?_
         rintro e wi1 ⟨rfl, hb1⟩
         have nb := lalloc_facts0 hb1
         try go_wp2_with fail
         have T4 := T3.below hb1
         refine hK.out _ _ T4.bel (fun hS4 => ?_)
         clear hK K
         try simp only [pu0, puN, pu1, pu2, pu3]
         refine wpAnyH_ready (rs := [21]) (by kernel_rfl) (by simp) ?_
         refine (AllReadyH.cons (o := _) rfl (fun K hK => ?_) AllReadyH.nil)
         ·go_simp
          go_at_call 61
          refine (SPf.out _).mono ?_
          rintro e wi2 ⟨rfl, hb2⟩
          have nb := lkeep_facts hb2 nb
          try go_wp2_with fail
          have T5 := T4.below hb2
          refine hK.out _ _ T5.bel (fun hS5 => ?_)
          clear hK K
          try simp only [pu0, puN, pu1, pu2, pu3]
          refine wpAnyH_ready (rs := [23]) (by kernel_rfl) (by simp) ?_
          refine (AllReadyH.cons (o := _) rfl (fun K hK => ?_) AllReadyH.nil)
          ·go_simp
           go_at_call 57
           refine (FLf.out _ T5).mono ?_
           rintro e wf ⟨vp, vi, rfl, hp, hq, hbf⟩
           try go_wp2_with fail
           have T6 := T5.below hbf
           have hpo := hown_mono hp T5.ge
           have hqo := hown_mono hq T5.ge
           obtain ⟨app, cpp, rfl⟩ := hown_form hp
           obtain ⟨aqq, cqq, rfl⟩ := hown_form hq
           refine hK.out _ _ T6.bel (fun hS6 => ?_)
           clear hK K
           try simp only [pu0, puN, pu1, pu2, pu3]
           refine wpAnyH_ready (rs := [24]) (by kernel_rfl) (by simp) ?_
           refine (AllReadyH.cons (o := _) rfl (fun K hK => ?_) AllReadyH.nil)
           go_simp
           have T7 := T6.push (.cells #[.slice app (4 + 2 * (ifnR r).length) cpp, .int .i64 F, .int .i64 2, .int .i64 4, .slice aqq (ifnR r).length cqq, .slice none 0 0, .slice none 0 0] 94)
           refine hK.out _ _ T7.bel (fun hS7 => ?_)
           clear hK K
           try simp only [pu0, puN, pu1, pu2, pu3]
           refine wpAnyH_ready (rs := [25]) (by kernel_rfl) (by simp) ?_
           refine (AllReadyH.cons (o := _) rfl (fun K hK => ?_) AllReadyH.nil)
           obtain ⟨vs, v1, v2, v3⟩ := T7.fs
           refine hwp_append_own2 (.tmp 43) (.tmp 67) 22 (by rfl) w.heap.size 94 i94 _ 7 120 und22 hi94 hz94 hs94 hy94 rfl (by decide) (.slice aout j cout) _ _ (by rfl) v3 ⟨wf.heap.size, 0, none⟩ 1 1 (aggs (.agg #[.slice app (4 + 2 * (ifnR r).length) cpp, .int .i64 F, .int .i64 2, .int .i64 4, .slice aqq (ifnR r).length cqq, .slice none 0 0, .slice none 0 0])) (by rfl) rfl (knew_at _ _ 94 _ rfl) (fun u hu => by simp only [aggs, List.mem_cons, List.not_mem_nil, or_false] at hu; rcases hu with rfl | rfl | rfl | rfl | rfl | rfl | rfl <;> rfl) (by rw [hfl]; unfold maxLen; omega) (by rw [hfl]; omega) T7.ge ?_
           intro v' w' own' hg' hm'
           have FO := (FRO.out _ _ _ hpo hqo).below ((Below.refl _ wf).alloc (Nat.le_refl _) (.cells (aggs (.agg #[.slice app (4 + 2 * (ifnR r).length) cpp, .int .i64 F, .int .i64 2, .int .i64 4, .slice aqq (ifnR r).length cqq, .slice none 0 0, .slice none 0 0])).toArray 94))
           have FS := OwnFs.snoc v1 v2 v3 FO hg' own'
           have BS := Below.grown T7.bel hg' T7.ge (fun q hq => hown_block_ge v3 q hq)
           refine hK.out _ _ BS (fun hS8 => ?_)
           clear hK K
           try simp only [pu0, puN, pu1, pu2, pu3]
           refine wpAnyH_take (i := 26) (oi := ({ dst := some 3, op := Op.assign (Operand.tmp 68), type := 22, pos := "law.go:87", after := #[{ on := 25, ground := Ground.data }, { on := 25, ground := Ground.chain }, { on := 0, ground := Ground.phase }, { on := 1, ground := Ground.phase }, { on := 2, ground := Ground.phase }, { on := 3, ground := Ground.phase }, { on := 4, ground := Ground.phase }, { on := 5, ground := Ground.phase }, { on := 6, ground := Ground.phase }, { on := 7, ground := Ground.phase }, { on := 8, ground := Ground.phase }, { on := 9, ground := Ground.phase }, { on := 10, ground := Ground.phase }, { on := 11, ground := Ground.phase }, { on := 12, ground := Ground.phase }, { on := 13, ground := Ground.phase }, { on := 14, ground := Ground.phase }, { on := 15, ground := Ground.phase }, { on := 16, ground := Ground.phase }, { on := 17, ground := Ground.phase }, { on := 18, ground := Ground.phase }, { on := 19, ground := Ground.phase }, { on := 20, ground := Ground.phase }, { on := 21, ground := Ground.phase }, { on := 22, ground := Ground.phase }, { on := 23, ground := Ground.phase }, { on := 24, ground := Ground.phase }, { on := 25, ground := Ground.phase }], guard := none } : Oper)) (v := ?v23) rfl (by kernel_rfl) (by kernel_rfl) (by kernel_rfl) (fun _ _ _ h => h) (Or.inl ⟨by rfl, ?hy23⟩) BS ?_
           case hy23 => (intro V hSw; go_simp; try with_reducible rfl)
           try simp only [pu0, puN, pu1, pu2, pu3]
           refine wpAnyH_done (by kernel_rfl) ?_ _
           rw [HFL.out] at own'
           obtain ⟨a', c', rfl⟩ := hown_form own'
           have FSS := Lib.hid FS
           have BSS := Lib.hid BS
           clear FS BS own' hg' hm'
           go_wp2
           go_roundg (g1 - 1)
           case measure => exact hgg
           case rel => exact ⟨j + 1, _, _, by go_num, rfl, by omega, by rw [TKE.out]; exact FSS.out, BSS.out⟩
       ·go_simp
        go_at_call 61
        refine (NMf.out _).mono ?_
        rintro e wi1 ⟨rfl, hb1⟩
        have nb := lalloc_facts0 hb1
        try go_wp2_with fail
        have T3 := T2.below hb1
        refine hK.out _ _ T3.bel (fun hS3 => ?_)
        clear hK K
        try simp only [pu0, puN, pu1, pu2, pu3]
        refine wpAnyH_ready (rs := [9, 21]) (by kernel_rfl) (by simp) ?_
        refine (AllReadyH.cons (o := _) rfl (fun K hK => ?_) (AllReadyH.cons (o := _) rfl (fun K hK => ?_) AllReadyH.nil))
        ·have n9 := ARR.out _ _ nb
         go_simp
         refine hK.out _ _ T3.bel (fun hS4 => ?_)
         clear hK K
         try simp only [pu0, puN, pu1, pu2, pu3]
         have T4 := T3
         refine wpAnyH_ready (rs := [21]) (by kernel_rfl) (by simp) ?_
         refine (AllReadyH.cons (o := _) rfl (fun K hK => ?_) AllReadyH.nil)
         ·go_simp
          go_at_call 61
          refine (SPf.out _).mono ?_
          rintro e wi2 ⟨rfl, hb2⟩
          have nb := lkeep_facts hb2 nb
          try go_wp2_with fail
          have T5 := T4.below hb2
          refine hK.out _ _ T5.bel (fun hS5 => ?_)
          clear hK K
          try simp only [pu0, puN, pu1, pu2, pu3]
          refine wpAnyH_ready (rs := [23]) (by kernel_rfl) (by simp) ?_
          refine (AllReadyH.cons (o := _) rfl (fun K hK => ?_) AllReadyH.nil)
          ·go_simp
           go_at_call 57
           refine (FLf.out _ T5).mono ?_
           rintro e wf ⟨vp, vi, rfl, hp, hq, hbf⟩
           try go_wp2_with fail
           have T6 := T5.below hbf
           have hpo := hown_mono hp T5.ge
           have hqo := hown_mono hq T5.ge
           obtain ⟨app, cpp, rfl⟩ := hown_form hp
           obtain ⟨aqq, cqq, rfl⟩ := hown_form hq
           refine hK.out _ _ T6.bel (fun hS6 => ?_)
           clear hK K
           try simp only [pu0, puN, pu1, pu2, pu3]
           refine wpAnyH_ready (rs := [24]) (by kernel_rfl) (by simp) ?_
           refine (AllReadyH.cons (o := _) rfl (fun K hK => ?_) AllReadyH.nil)
           go_simp
           have T7 := T6.push (.cells #[.slice app (4 + 2 * (ifnR r).length) cpp, .int .i64 F, .int .i64 2, .int .i64 4, .slice aqq (ifnR r).length cqq, .slice none 0 0, .slice none 0 0] 94)
           refine hK.out _ _ T7.bel (fun hS7 => ?_)
           clear hK K
           try simp only [pu0, puN, pu1, pu2, pu3]
           refine wpAnyH_ready (rs := [25]) (by kernel_rfl) (by simp) ?_
           refine (AllReadyH.cons (o := _) rfl (fun K hK => ?_) AllReadyH.nil)
           obtain ⟨vs, v1, v2, v3⟩ := T7.fs
           refine hwp_append_own2 (.tmp 43) (.tmp 67) 22 (by rfl) w.heap.size 94 i94 _ 7 120 und22 hi94 hz94 hs94 hy94 rfl (by decide) (.slice aout j cout) _ _ (by rfl) v3 ⟨wf.heap.size, 0, none⟩ 1 1 (aggs (.agg #[.slice app (4 + 2 * (ifnR r).length) cpp, .int .i64 F, .int .i64 2, .int .i64 4, .slice aqq (ifnR r).length cqq, .slice none 0 0, .slice none 0 0])) (by rfl) rfl (knew_at _ _ 94 _ rfl) (fun u hu => by simp only [aggs, List.mem_cons, List.not_mem_nil, or_false] at hu; rcases hu with rfl | rfl | rfl | rfl | rfl | rfl | rfl <;> rfl) (by rw [hfl]; unfold maxLen; omega) (by rw [hfl]; omega) T7.ge ?_
           intro v' w' own' hg' hm'
           have FO := (FRO.out _ _ _ hpo hqo).below ((Below.refl _ wf).alloc (Nat.le_refl _) (.cells (aggs (.agg #[.slice app (4 + 2 * (ifnR r).length) cpp, .int .i64 F, .int .i64 2, .int .i64 4, .slice aqq (ifnR r).length cqq, .slice none 0 0, .slice none 0 0])).toArray 94))
           have FS := OwnFs.snoc v1 v2 v3 FO hg' own'
           have BS := Below.grown T7.bel hg' T7.ge (fun q hq => hown_block_ge v3 q hq)
           refine hK.out _ _ BS (fun hS8 => ?_)
           clear hK K
           try simp only [pu0, puN, pu1, pu2, pu3]
           refine wpAnyH_take (i := 26) (oi := ({ dst := some 3, op := Op.assign (Operand.tmp 68), type := 22, pos := "law.go:87", after := #[{ on := 25, ground := Ground.data }, { on := 25, ground := Ground.chain }, { on := 0, ground := Ground.phase }, { on := 1, ground := Ground.phase }, { on := 2, ground := Ground.phase }, { on := 3, ground := Ground.phase }, { on := 4, ground := Ground.phase }, { on := 5, ground := Ground.phase }, { on := 6, ground := Ground.phase }, { on := 7, ground := Ground.phase }, { on := 8, ground := Ground.phase }, { on := 9, ground := Ground.phase }, { on := 10, ground := Ground.phase }, { on := 11, ground := Ground.phase }, { on := 12, ground := Ground.phase }, { on := 13, ground := Ground.phase }, { on := 14, ground := Ground.phase }, { on := 15, ground := Ground.phase }, { on := 16, ground := Ground.phase }, { on := 17, ground := Ground.phase }, { on := 18, ground := Ground.phase }, { on := 19, ground := Ground.phase }, { on := 20, ground := Ground.phase }, { on := 21, ground := Ground.phase }, { on := 22, ground := Ground.phase }, { on := 23, ground := Ground.phase }, { on := 24, ground := Ground.phase }, { on := 25, ground := Ground.phase }], guard := none } : Oper)) (v := ?v24) rfl (by kernel_rfl) (by kernel_rfl) (by kernel_rfl) (fun _ _ _ h => h) (Or.inl ⟨by rfl, ?hy24⟩) BS ?_
           case hy24 => (intro V hSw; go_simp; try with_reducible rfl)
           try simp only [pu0, puN, pu1, pu2, pu3]
           refine wpAnyH_done (by kernel_rfl) ?_ _
           rw [HFL.out] at own'
           obtain ⟨a', c', rfl⟩ := hown_form own'
           have FSS := Lib.hid FS
           have BSS := Lib.hid BS
           clear FS BS own' hg' hm'
           go_wp2
           go_roundg (g1 - 1)
           case measure => exact hgg
           case rel => exact ⟨j + 1, _, _, by go_num, rfl, by omega, by rw [TKE.out]; exact FSS.out, BSS.out⟩
        ·go_simp
         go_at_call 61
         refine (SPf.out _).mono ?_
         rintro e wi2 ⟨rfl, hb2⟩
         have nb := lkeep_facts hb2 nb
         try go_wp2_with fail
         have T4 := T3.below hb2
         refine hK.out _ _ T4.bel (fun hS4 => ?_)
         clear hK K
         try simp only [pu0, puN, pu1, pu2, pu3]
         refine wpAnyH_ready (rs := [9]) (by kernel_rfl) (by simp) ?_
         refine (AllReadyH.cons (o := _) rfl (fun K hK => ?_) AllReadyH.nil)
         ·have n9 := ARR.out _ _ nb
          go_simp
          refine hK.out _ _ T4.bel (fun hS5 => ?_)
          clear hK K
          try simp only [pu0, puN, pu1, pu2, pu3]
          have T5 := T4
          refine wpAnyH_ready (rs := [23]) (by kernel_rfl) (by simp) ?_
          refine (AllReadyH.cons (o := _) rfl (fun K hK => ?_) AllReadyH.nil)
          ·go_simp
           go_at_call 57
           refine (FLf.out _ T5).mono ?_
           rintro e wf ⟨vp, vi, rfl, hp, hq, hbf⟩
           try go_wp2_with fail
           have T6 := T5.below hbf
           have hpo := hown_mono hp T5.ge
           have hqo := hown_mono hq T5.ge
           obtain ⟨app, cpp, rfl⟩ := hown_form hp
           obtain ⟨aqq, cqq, rfl⟩ := hown_form hq
           refine hK.out _ _ T6.bel (fun hS6 => ?_)
           clear hK K
           try simp only [pu0, puN, pu1, pu2, pu3]
           refine wpAnyH_ready (rs := [24]) (by kernel_rfl) (by simp) ?_
           refine (AllReadyH.cons (o := _) rfl (fun K hK => ?_) AllReadyH.nil)
           go_simp
           have T7 := T6.push (.cells #[.slice app (4 + 2 * (ifnR r).length) cpp, .int .i64 F, .int .i64 2, .int .i64 4, .slice aqq (ifnR r).length cqq, .slice none 0 0, .slice none 0 0] 94)
           refine hK.out _ _ T7.bel (fun hS7 => ?_)
           clear hK K
           try simp only [pu0, puN, pu1, pu2, pu3]
           refine wpAnyH_ready (rs := [25]) (by kernel_rfl) (by simp) ?_
           refine (AllReadyH.cons (o := _) rfl (fun K hK => ?_) AllReadyH.nil)
           obtain ⟨vs, v1, v2, v3⟩ := T7.fs
           refine hwp_append_own2 (.tmp 43) (.tmp 67) 22 (by rfl) w.heap.size 94 i94 _ 7 120 und22 hi94 hz94 hs94 hy94 rfl (by decide) (.slice aout j cout) _ _ (by rfl) v3 ⟨wf.heap.size, 0, none⟩ 1 1 (aggs (.agg #[.slice app (4 + 2 * (ifnR r).length) cpp, .int .i64 F, .int .i64 2, .int .i64 4, .slice aqq (ifnR r).length cqq, .slice none 0 0, .slice none 0 0])) (by rfl) rfl (knew_at _ _ 94 _ rfl) (fun u hu => by simp only [aggs, List.mem_cons, List.not_mem_nil, or_false] at hu; rcases hu with rfl | rfl | rfl | rfl | rfl | rfl | rfl <;> rfl) (by rw [hfl]; unfold maxLen; omega) (by rw [hfl]; omega) T7.ge ?_
           intro v' w' own' hg' hm'
           have FO := (FRO.out _ _ _ hpo hqo).below ((Below.refl _ wf).alloc (Nat.le_refl _) (.cells (aggs (.agg #[.slice app (4 + 2 * (ifnR r).length) cpp, .int .i64 F, .int .i64 2, .int .i64 4, .slice aqq (ifnR r).length cqq, .slice none 0 0, .slice none 0 0])).toArray 94))
           have FS := OwnFs.snoc v1 v2 v3 FO hg' own'
           have BS := Below.grown T7.bel hg' T7.ge (fun q hq => hown_block_ge v3 q hq)
           refine hK.out _ _ BS (fun hS8 => ?_)
           clear hK K
           try simp only [pu0, puN, pu1, pu2, pu3]
           refine wpAnyH_take (i := 26) (oi := ({ dst := some 3, op := Op.assign (Operand.tmp 68), type := 22, pos := "law.go:87", after := #[{ on := 25, ground := Ground.data }, { on := 25, ground := Ground.chain }, { on := 0, ground := Ground.phase }, { on := 1, ground := Ground.phase }, { on := 2, ground := Ground.phase }, { on := 3, ground := Ground.phase }, { on := 4, ground := Ground.phase }, { on := 5, ground := Ground.phase }, { on := 6, ground := Ground.phase }, { on := 7, ground := Ground.phase }, { on := 8, ground := Ground.phase }, { on := 9, ground := Ground.phase }, { on := 10, ground := Ground.phase }, { on := 11, ground := Ground.phase }, { on := 12, ground := Ground.phase }, { on := 13, ground := Ground.phase }, { on := 14, ground := Ground.phase }, { on := 15, ground := Ground.phase }, { on := 16, ground := Ground.phase }, { on := 17, ground := Ground.phase }, { on := 18, ground := Ground.phase }, { on := 19, ground := Ground.phase }, { on := 20, ground := Ground.phase }, { on := 21, ground := Ground.phase }, { on := 22, ground := Ground.phase }, { on := 23, ground := Ground.phase }, { on := 24, ground := Ground.phase }, { on := 25, ground := Ground.phase }], guard := none } : Oper)) (v := ?v25) rfl (by kernel_rfl) (by kernel_rfl) (by kernel_rfl) (fun _ _ _ h => h) (Or.inl ⟨by rfl, ?hy25⟩) BS ?_
           case hy25 => (intro V hSw; go_simp; try with_reducible rfl)
           try simp only [pu0, puN, pu1, pu2, pu3]
           refine wpAnyH_done (by kernel_rfl) ?_ _
           rw [HFL.out] at own'
           obtain ⟨a', c', rfl⟩ := hown_form own'
           have FSS := Lib.hid FS
           have BSS := Lib.hid BS
           clear FS BS own' hg' hm'
           go_wp2
           go_roundg (g1 - 1)
           case measure => exact hgg
           case rel => exact ⟨j + 1, _, _, by go_num, rfl, by omega, by rw [TKE.out]; exact FSS.out, BSS.out⟩
      ·go_simp
       go_at_call 61
       refine (NMf.out _).mono ?_
       rintro e wi1 ⟨rfl, hb1⟩
       try go_wp2_with fail
       have T2 := T1.below hb1
       refine hK.out _ _ T2.bel (fun hS2 => ?_)
       clear hK K
       try simp only [pu0, puN, pu1, pu2, pu3]
       refine wpAnyH_ready (rs := [1, 21]) (by kernel_rfl) (by simp) ?_
       refine (AllReadyH.cons (o := _) rfl (fun K hK => ?_) (AllReadyH.cons (o := _) rfl (fun K hK => ?_) AllReadyH.nil))
       ·go_simp
        have T3 := T2.push (.cells #[.int .i64 0, .int .i64 0, .int .i64 2, .int .i64 3] 3)
        refine hK.out _ _ T3.bel (fun hS3 => ?_)
        clear hK K
        try simp only [pu0, puN, pu1, pu2, pu3]
        refine wpAnyH_take (i := 8) (oi := _) (v := ?v26) rfl (by kernel_rfl) (by kernel_rfl) (by kernel_rfl) (fun _ _ _ h => h) (Or.inl ⟨by rfl, ?hy26⟩) T3.bel ?_
        case hy26 => (intro V hSw; go_simp; first | exact rfl | exact if_pos hpk2; try with_reducible rfl)
        try simp only [pu0, puN, pu1, pu2, pu3]
        refine wpAnyH_ready (rs := [9, 21]) (by kernel_rfl) (by simp) ?_
        refine (AllReadyH.cons (o := _) rfl (fun K hK => ?_) (AllReadyH.cons (o := _) rfl (fun K hK => ?_) AllReadyH.nil))
        ·have n9 := ARR.out _ _ (hheap_new wi1 (.cells #[.int .i64 0, .int .i64 0, .int .i64 2, .int .i64 3] 3))
         go_simp
         refine hK.out _ _ T3.bel (fun hS4 => ?_)
         clear hK K
         try simp only [pu0, puN, pu1, pu2, pu3]
         have T4 := T3
         refine wpAnyH_ready (rs := [21]) (by kernel_rfl) (by simp) ?_
         refine (AllReadyH.cons (o := _) rfl (fun K hK => ?_) AllReadyH.nil)
         ·go_simp
          go_at_call 61
          refine (SPf.out _).mono ?_
          rintro e wi2 ⟨rfl, hb2⟩
          have nb := lalloc_facts hb2
          try go_wp2_with fail
          have T5 := T4.below hb2
          refine hK.out _ _ T5.bel (fun hS5 => ?_)
          clear hK K
          try simp only [pu0, puN, pu1, pu2, pu3]
          refine wpAnyH_ready (rs := [23]) (by kernel_rfl) (by simp) ?_
          refine (AllReadyH.cons (o := _) rfl (fun K hK => ?_) AllReadyH.nil)
          ·go_simp
           go_at_call 57
           refine (FLf.out _ T5).mono ?_
           rintro e wf ⟨vp, vi, rfl, hp, hq, hbf⟩
           try go_wp2_with fail
           have T6 := T5.below hbf
           have hpo := hown_mono hp T5.ge
           have hqo := hown_mono hq T5.ge
           obtain ⟨app, cpp, rfl⟩ := hown_form hp
           obtain ⟨aqq, cqq, rfl⟩ := hown_form hq
           refine hK.out _ _ T6.bel (fun hS6 => ?_)
           clear hK K
           try simp only [pu0, puN, pu1, pu2, pu3]
           refine wpAnyH_ready (rs := [24]) (by kernel_rfl) (by simp) ?_
           refine (AllReadyH.cons (o := _) rfl (fun K hK => ?_) AllReadyH.nil)
           go_simp
           have T7 := T6.push (.cells #[.slice app (4 + 2 * (ifnR r).length) cpp, .int .i64 F, .int .i64 2, .int .i64 4, .slice aqq (ifnR r).length cqq, .slice none 0 0, .slice none 0 0] 94)
           refine hK.out _ _ T7.bel (fun hS7 => ?_)
           clear hK K
           try simp only [pu0, puN, pu1, pu2, pu3]
           refine wpAnyH_ready (rs := [25]) (by kernel_rfl) (by simp) ?_
           refine (AllReadyH.cons (o := _) rfl (fun K hK => ?_) AllReadyH.nil)
           obtain ⟨vs, v1, v2, v3⟩ := T7.fs
           refine hwp_append_own2 (.tmp 43) (.tmp 67) 22 (by rfl) w.heap.size 94 i94 _ 7 120 und22 hi94 hz94 hs94 hy94 rfl (by decide) (.slice aout j cout) _ _ (by rfl) v3 ⟨wf.heap.size, 0, none⟩ 1 1 (aggs (.agg #[.slice app (4 + 2 * (ifnR r).length) cpp, .int .i64 F, .int .i64 2, .int .i64 4, .slice aqq (ifnR r).length cqq, .slice none 0 0, .slice none 0 0])) (by rfl) rfl (knew_at _ _ 94 _ rfl) (fun u hu => by simp only [aggs, List.mem_cons, List.not_mem_nil, or_false] at hu; rcases hu with rfl | rfl | rfl | rfl | rfl | rfl | rfl <;> rfl) (by rw [hfl]; unfold maxLen; omega) (by rw [hfl]; omega) T7.ge ?_
           intro v' w' own' hg' hm'
           have FO := (FRO.out _ _ _ hpo hqo).below ((Below.refl _ wf).alloc (Nat.le_refl _) (.cells (aggs (.agg #[.slice app (4 + 2 * (ifnR r).length) cpp, .int .i64 F, .int .i64 2, .int .i64 4, .slice aqq (ifnR r).length cqq, .slice none 0 0, .slice none 0 0])).toArray 94))
           have FS := OwnFs.snoc v1 v2 v3 FO hg' own'
           have BS := Below.grown T7.bel hg' T7.ge (fun q hq => hown_block_ge v3 q hq)
           refine hK.out _ _ BS (fun hS8 => ?_)
           clear hK K
           try simp only [pu0, puN, pu1, pu2, pu3]
           refine wpAnyH_take (i := 26) (oi := ({ dst := some 3, op := Op.assign (Operand.tmp 68), type := 22, pos := "law.go:87", after := #[{ on := 25, ground := Ground.data }, { on := 25, ground := Ground.chain }, { on := 0, ground := Ground.phase }, { on := 1, ground := Ground.phase }, { on := 2, ground := Ground.phase }, { on := 3, ground := Ground.phase }, { on := 4, ground := Ground.phase }, { on := 5, ground := Ground.phase }, { on := 6, ground := Ground.phase }, { on := 7, ground := Ground.phase }, { on := 8, ground := Ground.phase }, { on := 9, ground := Ground.phase }, { on := 10, ground := Ground.phase }, { on := 11, ground := Ground.phase }, { on := 12, ground := Ground.phase }, { on := 13, ground := Ground.phase }, { on := 14, ground := Ground.phase }, { on := 15, ground := Ground.phase }, { on := 16, ground := Ground.phase }, { on := 17, ground := Ground.phase }, { on := 18, ground := Ground.phase }, { on := 19, ground := Ground.phase }, { on := 20, ground := Ground.phase }, { on := 21, ground := Ground.phase }, { on := 22, ground := Ground.phase }, { on := 23, ground := Ground.phase }, { on := 24, ground := Ground.phase }, { on := 25, ground := Ground.phase }], guard := none } : Oper)) (v := ?v27) rfl (by kernel_rfl) (by kernel_rfl) (by kernel_rfl) (fun _ _ _ h => h) (Or.inl ⟨by rfl, ?hy27⟩) BS ?_
           case hy27 => (intro V hSw; go_simp; try with_reducible rfl)
           try simp only [pu0, puN, pu1, pu2, pu3]
           refine wpAnyH_done (by kernel_rfl) ?_ _
           rw [HFL.out] at own'
           obtain ⟨a', c', rfl⟩ := hown_form own'
           have FSS := Lib.hid FS
           have BSS := Lib.hid BS
           clear FS BS own' hg' hm'
           go_wp2
           go_roundg (g1 - 1)
           case measure => exact hgg
           case rel => exact ⟨j + 1, _, _, by go_num, rfl, by omega, by rw [TKE.out]; exact FSS.out, BSS.out⟩
        ·go_simp
         go_at_call 61
         refine (SPf.out _).mono ?_
         rintro e wi2 ⟨rfl, hb2⟩
         have nb := lalloc_facts hb2
         try go_wp2_with fail
         have T4 := T3.below hb2
         refine hK.out _ _ T4.bel (fun hS4 => ?_)
         clear hK K
         try simp only [pu0, puN, pu1, pu2, pu3]
         refine wpAnyH_ready (rs := [9]) (by kernel_rfl) (by simp) ?_
         refine (AllReadyH.cons (o := _) rfl (fun K hK => ?_) AllReadyH.nil)
         ·have n9 := ARR.out _ _ nb
          go_simp
          refine hK.out _ _ T4.bel (fun hS5 => ?_)
          clear hK K
          try simp only [pu0, puN, pu1, pu2, pu3]
          have T5 := T4
          refine wpAnyH_ready (rs := [23]) (by kernel_rfl) (by simp) ?_
          refine (AllReadyH.cons (o := _) rfl (fun K hK => ?_) AllReadyH.nil)
          ·go_simp
           go_at_call 57
           refine (FLf.out _ T5).mono ?_
           rintro e wf ⟨vp, vi, rfl, hp, hq, hbf⟩
           try go_wp2_with fail
           have T6 := T5.below hbf
           have hpo := hown_mono hp T5.ge
           have hqo := hown_mono hq T5.ge
           obtain ⟨app, cpp, rfl⟩ := hown_form hp
           obtain ⟨aqq, cqq, rfl⟩ := hown_form hq
           refine hK.out _ _ T6.bel (fun hS6 => ?_)
           clear hK K
           try simp only [pu0, puN, pu1, pu2, pu3]
           refine wpAnyH_ready (rs := [24]) (by kernel_rfl) (by simp) ?_
           refine (AllReadyH.cons (o := _) rfl (fun K hK => ?_) AllReadyH.nil)
           go_simp
           have T7 := T6.push (.cells #[.slice app (4 + 2 * (ifnR r).length) cpp, .int .i64 F, .int .i64 2, .int .i64 4, .slice aqq (ifnR r).length cqq, .slice none 0 0, .slice none 0 0] 94)
           refine hK.out _ _ T7.bel (fun hS7 => ?_)
           clear hK K
           try simp only [pu0, puN, pu1, pu2, pu3]
           refine wpAnyH_ready (rs := [25]) (by kernel_rfl) (by simp) ?_
           refine (AllReadyH.cons (o := _) rfl (fun K hK => ?_) AllReadyH.nil)
           obtain ⟨vs, v1, v2, v3⟩ := T7.fs
           refine hwp_append_own2 (.tmp 43) (.tmp 67) 22 (by rfl) w.heap.size 94 i94 _ 7 120 und22 hi94 hz94 hs94 hy94 rfl (by decide) (.slice aout j cout) _ _ (by rfl) v3 ⟨wf.heap.size, 0, none⟩ 1 1 (aggs (.agg #[.slice app (4 + 2 * (ifnR r).length) cpp, .int .i64 F, .int .i64 2, .int .i64 4, .slice aqq (ifnR r).length cqq, .slice none 0 0, .slice none 0 0])) (by rfl) rfl (knew_at _ _ 94 _ rfl) (fun u hu => by simp only [aggs, List.mem_cons, List.not_mem_nil, or_false] at hu; rcases hu with rfl | rfl | rfl | rfl | rfl | rfl | rfl <;> rfl) (by rw [hfl]; unfold maxLen; omega) (by rw [hfl]; omega) T7.ge ?_
           intro v' w' own' hg' hm'
           have FO := (FRO.out _ _ _ hpo hqo).below ((Below.refl _ wf).alloc (Nat.le_refl _) (.cells (aggs (.agg #[.slice app (4 + 2 * (ifnR r).length) cpp, .int .i64 F, .int .i64 2, .int .i64 4, .slice aqq (ifnR r).length cqq, .slice none 0 0, .slice none 0 0])).toArray 94))
           have FS := OwnFs.snoc v1 v2 v3 FO hg' own'
           have BS := Below.grown T7.bel hg' T7.ge (fun q hq => hown_block_ge v3 q hq)
           refine hK.out _ _ BS (fun hS8 => ?_)
           clear hK K
           try simp only [pu0, puN, pu1, pu2, pu3]
           refine wpAnyH_take (i := 26) (oi := ({ dst := some 3, op := Op.assign (Operand.tmp 68), type := 22, pos := "law.go:87", after := #[{ on := 25, ground := Ground.data }, { on := 25, ground := Ground.chain }, { on := 0, ground := Ground.phase }, { on := 1, ground := Ground.phase }, { on := 2, ground := Ground.phase }, { on := 3, ground := Ground.phase }, { on := 4, ground := Ground.phase }, { on := 5, ground := Ground.phase }, { on := 6, ground := Ground.phase }, { on := 7, ground := Ground.phase }, { on := 8, ground := Ground.phase }, { on := 9, ground := Ground.phase }, { on := 10, ground := Ground.phase }, { on := 11, ground := Ground.phase }, { on := 12, ground := Ground.phase }, { on := 13, ground := Ground.phase }, { on := 14, ground := Ground.phase }, { on := 15, ground := Ground.phase }, { on := 16, ground := Ground.phase }, { on := 17, ground := Ground.phase }, { on := 18, ground := Ground.phase }, { on := 19, ground := Ground.phase }, { on := 20, ground := Ground.phase }, { on := 21, ground := Ground.phase }, { on := 22, ground := Ground.phase }, { on := 23, ground := Ground.phase }, { on := 24, ground := Ground.phase }, { on := 25, ground := Ground.phase }], guard := none } : Oper)) (v := ?v28) rfl (by kernel_rfl) (by kernel_rfl) (by kernel_rfl) (fun _ _ _ h => h) (Or.inl ⟨by rfl, ?hy28⟩) BS ?_
           case hy28 => (intro V hSw; go_simp; try with_reducible rfl)
           try simp only [pu0, puN, pu1, pu2, pu3]
           refine wpAnyH_done (by kernel_rfl) ?_ _
           rw [HFL.out] at own'
           obtain ⟨a', c', rfl⟩ := hown_form own'
           have FSS := Lib.hid FS
           have BSS := Lib.hid BS
           clear FS BS own' hg' hm'
           go_wp2
           go_roundg (g1 - 1)
           case measure => exact hgg
           case rel => exact ⟨j + 1, _, _, by go_num, rfl, by omega, by rw [TKE.out]; exact FSS.out, BSS.out⟩
       ·go_simp
        go_at_call 61
        refine (SPf.out _).mono ?_
        rintro e wi2 ⟨rfl, hb2⟩
        try go_wp2_with fail
        have T3 := T2.below hb2
        refine hK.out _ _ T3.bel (fun hS3 => ?_)
        clear hK K
        try simp only [pu0, puN, pu1, pu2, pu3]
        refine wpAnyH_ready (rs := [1]) (by kernel_rfl) (by simp) ?_
        refine (AllReadyH.cons (o := _) rfl (fun K hK => ?_) AllReadyH.nil)
        ·go_simp
         have T4 := T3.push (.cells #[.int .i64 0, .int .i64 0, .int .i64 2, .int .i64 3] 3)
         refine hK.out _ _ T4.bel (fun hS4 => ?_)
         clear hK K
         try simp only [pu0, puN, pu1, pu2, pu3]
         refine wpAnyH_take (i := 8) (oi := _) (v := ?v29) rfl (by kernel_rfl) (by kernel_rfl) (by kernel_rfl) (fun _ _ _ h => h) (Or.inl ⟨by rfl, ?hy29⟩) T4.bel ?_
         case hy29 => (intro V hSw; go_simp; first | exact rfl | exact if_pos hpk2; try with_reducible rfl)
         try simp only [pu0, puN, pu1, pu2, pu3]
         refine wpAnyH_ready (rs := [9]) (by kernel_rfl) (by simp) ?_
         refine (AllReadyH.cons (o := _) rfl (fun K hK => ?_) AllReadyH.nil)
         ·have n9 := ARR.out _ _ (hheap_new wi2 (.cells #[.int .i64 0, .int .i64 0, .int .i64 2, .int .i64 3] 3))
          go_simp
          refine hK.out _ _ T4.bel (fun hS5 => ?_)
          clear hK K
          try simp only [pu0, puN, pu1, pu2, pu3]
          have T5 := T4
          refine wpAnyH_ready (rs := [23]) (by kernel_rfl) (by simp) ?_
          refine (AllReadyH.cons (o := _) rfl (fun K hK => ?_) AllReadyH.nil)
          ·go_simp
           go_at_call 57
           refine (FLf.out _ T5).mono ?_
           rintro e wf ⟨vp, vi, rfl, hp, hq, hbf⟩
           try go_wp2_with fail
           have T6 := T5.below hbf
           have hpo := hown_mono hp T5.ge
           have hqo := hown_mono hq T5.ge
           obtain ⟨app, cpp, rfl⟩ := hown_form hp
           obtain ⟨aqq, cqq, rfl⟩ := hown_form hq
           refine hK.out _ _ T6.bel (fun hS6 => ?_)
           clear hK K
           try simp only [pu0, puN, pu1, pu2, pu3]
           refine wpAnyH_ready (rs := [24]) (by kernel_rfl) (by simp) ?_
           refine (AllReadyH.cons (o := _) rfl (fun K hK => ?_) AllReadyH.nil)
           go_simp
           have T7 := T6.push (.cells #[.slice app (4 + 2 * (ifnR r).length) cpp, .int .i64 F, .int .i64 2, .int .i64 4, .slice aqq (ifnR r).length cqq, .slice none 0 0, .slice none 0 0] 94)
           refine hK.out _ _ T7.bel (fun hS7 => ?_)
           clear hK K
           try simp only [pu0, puN, pu1, pu2, pu3]
           refine wpAnyH_ready (rs := [25]) (by kernel_rfl) (by simp) ?_
           refine (AllReadyH.cons (o := _) rfl (fun K hK => ?_) AllReadyH.nil)
           obtain ⟨vs, v1, v2, v3⟩ := T7.fs
           refine hwp_append_own2 (.tmp 43) (.tmp 67) 22 (by rfl) w.heap.size 94 i94 _ 7 120 und22 hi94 hz94 hs94 hy94 rfl (by decide) (.slice aout j cout) _ _ (by rfl) v3 ⟨wf.heap.size, 0, none⟩ 1 1 (aggs (.agg #[.slice app (4 + 2 * (ifnR r).length) cpp, .int .i64 F, .int .i64 2, .int .i64 4, .slice aqq (ifnR r).length cqq, .slice none 0 0, .slice none 0 0])) (by rfl) rfl (knew_at _ _ 94 _ rfl) (fun u hu => by simp only [aggs, List.mem_cons, List.not_mem_nil, or_false] at hu; rcases hu with rfl | rfl | rfl | rfl | rfl | rfl | rfl <;> rfl) (by rw [hfl]; unfold maxLen; omega) (by rw [hfl]; omega) T7.ge ?_
           intro v' w' own' hg' hm'
           have FO := (FRO.out _ _ _ hpo hqo).below ((Below.refl _ wf).alloc (Nat.le_refl _) (.cells (aggs (.agg #[.slice app (4 + 2 * (ifnR r).length) cpp, .int .i64 F, .int .i64 2, .int .i64 4, .slice aqq (ifnR r).length cqq, .slice none 0 0, .slice none 0 0])).toArray 94))
           have FS := OwnFs.snoc v1 v2 v3 FO hg' own'
           have BS := Below.grown T7.bel hg' T7.ge (fun q hq => hown_block_ge v3 q hq)
           refine hK.out _ _ BS (fun hS8 => ?_)
           clear hK K
           try simp only [pu0, puN, pu1, pu2, pu3]
           refine wpAnyH_take (i := 26) (oi := ({ dst := some 3, op := Op.assign (Operand.tmp 68), type := 22, pos := "law.go:87", after := #[{ on := 25, ground := Ground.data }, { on := 25, ground := Ground.chain }, { on := 0, ground := Ground.phase }, { on := 1, ground := Ground.phase }, { on := 2, ground := Ground.phase }, { on := 3, ground := Ground.phase }, { on := 4, ground := Ground.phase }, { on := 5, ground := Ground.phase }, { on := 6, ground := Ground.phase }, { on := 7, ground := Ground.phase }, { on := 8, ground := Ground.phase }, { on := 9, ground := Ground.phase }, { on := 10, ground := Ground.phase }, { on := 11, ground := Ground.phase }, { on := 12, ground := Ground.phase }, { on := 13, ground := Ground.phase }, { on := 14, ground := Ground.phase }, { on := 15, ground := Ground.phase }, { on := 16, ground := Ground.phase }, { on := 17, ground := Ground.phase }, { on := 18, ground := Ground.phase }, { on := 19, ground := Ground.phase }, { on := 20, ground := Ground.phase }, { on := 21, ground := Ground.phase }, { on := 22, ground := Ground.phase }, { on := 23, ground := Ground.phase }, { on := 24, ground := Ground.phase }, { on := 25, ground := Ground.phase }], guard := none } : Oper)) (v := ?v30) rfl (by kernel_rfl) (by kernel_rfl) (by kernel_rfl) (fun _ _ _ h => h) (Or.inl ⟨by rfl, ?hy30⟩) BS ?_
           case hy30 => (intro V hSw; go_simp; try with_reducible rfl)
           try simp only [pu0, puN, pu1, pu2, pu3]
           refine wpAnyH_done (by kernel_rfl) ?_ _
           rw [HFL.out] at own'
           obtain ⟨a', c', rfl⟩ := hown_form own'
           have FSS := Lib.hid FS
           have BSS := Lib.hid BS
           clear FS BS own' hg' hm'
           go_wp2
           go_roundg (g1 - 1)
           case measure => exact hgg
           case rel => exact ⟨j + 1, _, _, by go_num, rfl, by omega, by rw [TKE.out]; exact FSS.out, BSS.out⟩
  ·obtain rfl : N = j := by omega
   clear hfs hbx
   go_upto_region 3 with fail
   go_cut [14] (fun v wx => v = .bool false ∧ wx = wr)
   case first =>
    go_wp2
    all_goals (go_meet; case rel => exact ⟨by first | rfl | (congr 1; simp; omega), rfl⟩)
   obtain ⟨rfl, hwc⟩ := hcut
   subst hwc
   go_wp2
   go_ret
   have e : (rs.take N).map fileR = filesR rs := by
    unfold filesR
    congr 1
    have hN := HNN.out
    by_cases h70 : rs.length ≤ 70
    ·rw [List.take_of_length_le (by omega), List.take_of_length_le h70]
    ·rw [show N = 70 by omega]
   have hf := HFS.out
   rw [e] at hf
   exact ⟨_, rfl, hf, HBX.out⟩
end Go.Proofs.YtmaknddlgppinaaGreatDoor
