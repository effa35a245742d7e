/-
  WALK of the document's Make.
-/
import Derived.Test.YtgepgbpjdjbelaaRt
set_option linter.unusedVariables false
set_option linter.unusedSimpArgs false
namespace Go.Proofs.Ytgepgbpjdjbelaa
open Go.RowKit

theorem und36w : Try.prog.underlying 36 = some (.slice 32) := by kernel_rfl
theorem info32w : (Try.prog.info? 32).map (fun i => (i.zero, i.size, i.bytes)) = some (some (.agg #[.slice none 0 0, .slice none 0 0]), 2, 48) := by kernel_rfl
theorem nil_len (ls : Nat) (n : Nat) (h : ls ≠ n) : ((ls : Int) == (n : Int)) = false ∧ ((ls : Int) != (n : Int)) = true ∧ ¬ (ls : Int) = (n : Int) ∧ ((n : Int) == (ls : Int)) = false ∧ ((n : Int) != (ls : Int)) = true ∧ ¬ (n : Int) = (ls : Int) := by
  refine ⟨?_, ?_, ?_, ?_, ?_, ?_⟩
  · rw [beq_eq_false_iff_ne]; omega
  · rw [bne_iff_ne]; omega
  · omega
  · rw [beq_eq_false_iff_ne]; omega
  · rw [bne_iff_ne]; omega
  · omega
set_option maxRecDepth 1000000 in
set_option maxHeartbeats 6400000 in
theorem refMake_any (ss : List SQ) (rs : List Bool) (n : Nat) (AL : Option Addr) (cL : Nat) (vs vr : Value) (B : Nat) (w : World) (hs : SRow B w vs ss) (hr : BRow B w vr rs) (hn : n ≤ 9223372036854775807)
    (hB : B ≤ w.heap.size) (hls : ss.length ≤ 2932031007402) (hle : ∀ s ∈ ss, s.1.length ≤ 4000000000000 ∧ s.2.length ≤ 4000000000000) :
    Calls Try.prog 12 #[.agg #[.slice AL n cL, vs, vr]] w fun e w' => ∃ v, e = .returned v ∧ MRow w'.heap.size w' v (mkT ss rs n) ∧ Below w.heap.size w w' := by
  obtain ⟨As, cs, rfl, hcs, hms⟩ := hs.form
  obtain ⟨Ar, cr, rfl, hcr, hmr⟩ := hr.form
  unfold maxLen at hms hmr
  obtain ⟨i32, hi32, hz32, hs32, hb32⟩ := info_parts info32w
  have HS := Lib.hid hs
  have HR := Lib.hid hr
  have HLE := Lib.hid hle
  obtain ⟨ls, hl1⟩ : ∃ m, ss.length = m := ⟨_, rfl⟩
  obtain ⟨lr, hl2⟩ : ∃ m, rs.length = m := ⟨_, rfl⟩
  have HL1 := Lib.hid hl1
  have HL2 := Lib.hid hl2
  rw [hl1] at hcs hms HS hls ⊢
  rw [hl2] at hcr hmr HR ⊢
  obtain ⟨M, hM⟩ : ∃ M, mkT ss rs n = M := ⟨_, rfl⟩
  rw [hM]
  unfold mkT at hM
  rw [hl1, hl2] at hM
  have HM := Lib.hid hM
  have hb0 : Below w.heap.size w (w.alloc (.cells #[.slice AL n cL, .slice As ls cs, .slice Ar lr cr] 41)) := (Below.refl _ w).alloc (Nat.le_refl _) _
  have hx0 : (w.alloc (.cells #[.slice AL n cL, .slice As ls cs, .slice Ar lr cr] 41)).heap[w.heap.size]? = some (.cells #[.slice AL n cL, .slice As ls cs, .slice Ar lr cr] 41 (0, 0)) := heap_new w _
  have HB0 := Lib.hid hb0
  have HX0 := Lib.hid hx0
  clear hs hr hle hl1 hl2 hM hb0 hx0
  by_cases h1 : ls = n
  · by_cases h2 : lr = n
    · subst h1
      subst h2
      have HM1 := Lib.hid (show mtM ss rs lr = M by rw [← HM.out, if_pos ⟨rfl, rfl⟩])
      clear HM
      go_enter Try.func12, Try.ntmps12
      go_wp2
      go_loopw [3, 4] (fun sv iv wx => ∃ (i : Nat) (ps : List (Value × Value)), i ≤ lr ∧ iv = .int .i64 (i : Int) ∧ wx.ownsRow w.heap.size 32 2 sv i (ps.flatMap mcells) ∧ wx.heap[w.heap.size]? = some (.cells #[.slice AL lr cL, .slice As lr cs, .slice Ar lr cr] 41 (0, 0)) ∧ MSub (OwnL wx w.heap.size) (mtM ss rs i) ps ∧ Below w.heap.size w wx) (fun _ iv _ => lr - (intOf iv).toNat)
      case atStart => exact ⟨0, [], Nat.zero_le _, rfl, World.ownsRow_nil _ _ _ _, HX0.out, MSub.nil, HB0.out⟩
      case round =>
        obtain ⟨i, ps, hin, rfl, ho, hx, hsub, hbw⟩ := hrel
        obtain ⟨g, d, rfl⟩ := own_form ho
        have HS5 := Lib.hid hsub
        have HBW := Lib.hid hbw
        have HO := Lib.hid ho
        have HX := Lib.hid hx
        have hsz := hbw.size
        have hxw := lt_of_block hx
        have x0 := cells_of hx 0
        have x1 := cells_of hx 1
        have x2 := cells_of hx 2
        simp only [List.getElem?_toArray, List.getElem?_cons_succ, List.getElem?_cons_zero] at x0 x1 x2
        clear hsub hbw ho hx
        by_cases hlt : i < lr
        · have hi2 : (i : Int) < (lr : Int) := by omega
          obtain ⟨r, hr⟩ : ∃ r, rs[i]? = some r := ⟨_, List.getElem?_eq_getElem (by rw [HL2.out]; exact hlt)⟩
          obtain ⟨q, hq⟩ : ∃ q, ss[i]? = some q := ⟨_, List.getElem?_eq_getElem (by rw [HL1.out]; exact hlt)⟩
          obtain ⟨b, o, rfl, hbB, y0⟩ := (HR.out.below HBW.out hB).at_ hr
          obtain ⟨b2, o2, A1, c1, A2, c2, rfl, hbB2, k1, k2, y1, y2⟩ := (HS.out.below HBW.out hB).at_ hq
          have K1 := Lib.hid k1
          have K2 := Lib.hid k2
          have hbw1 : b < wr.heap.size := by omega
          have hbw2 : b2 < wr.heap.size := by omega
          have hBr : B ≤ wr.heap.size := by omega
          have HE := Lib.hid (HLE.out q (List.mem_of_getElem? hq))
          have HMT := Lib.hid (show mt1 ss rs i = if r = true then ofQ q else ([], []) by unfold mt1; rw [hr, hq]; rfl)
          clear hr hq k1 k2
          cases r with
          | false =>
            have hW : Below wr.heap.size wr ((wr.alloc (.cells #[.slice none 0 0, .slice none 0 0] 32)).alloc (.cells #[.slice none 0 0, .slice none 0 0] 32)) :=
              ((Below.refl _ wr).alloc (Nat.le_refl _) _).alloc (by simp) _
            have HW := Lib.hid hW
            clear hW
            have na := new_at (wr.alloc (.cells #[.slice none 0 0, .slice none 0 0] 32)) [.slice none 0 0, .slice none 0 0] 32
            rw [World.size_alloc] at na
            have NA := Lib.hid na
            clear na
            have NB := Lib.hid (show ∀ u ∈ [Value.slice none 0 0, Value.slice none 0 0], u.oneCell' = true from fun u hu => by simp at hu; rw [hu]; rfl)
            have NC := Lib.hid (show i + 1 ≤ maxLen by unfold maxLen; omega)
            have ND := Lib.hid (show (i + 1) * 48 ≤ 140737488355328 by omega)
            have NE := Lib.hid (show w.heap.size ≤ ((wr.alloc (.cells #[.slice none 0 0, .slice none 0 0] 32)).alloc (.cells #[.slice none 0 0, .slice none 0 0] 32)).heap.size by have := HW.out.size; omega)
            go_wp2_with (at_builtin; refine wpList_append_own _ rfl (.tmp 41) (.tmp 43) 36 rfl w.heap.size 32 i32 (.agg #[.slice none 0 0, .slice none 0 0]) 2 48 und36w hi32 hz32 hs32 hb32 rfl (by decide) (.slice g i d) i _ rfl (own_below HO.out HW.out) ⟨_, 0, none⟩ 1 1 [.slice none 0 0, .slice none 0 0] rfl rfl NA.out NB.out NC.out ND.out NE.out ?_)
            intro v1 w1 own1 hg1 _
            have HKP := Lib.hid (own_grown (own_below HO.out HW.out) (by have := HW.out.size; omega) hg1)
            have HX1 := Lib.hid (HKP.out.other _ _ _ _ (by decide) ((HW.out.block _ hxw).trans HX.out))
            have HO1 := Lib.hid own1
            have HB1 := Lib.hid ((HBW.out.trans (HW.out.mono hsz)).trans HKP.out.below)
            obtain ⟨g1', d1', rfl⟩ := own_form own1
            clear own1 hg1
            go_wp2
            go_roundw
            case rel =>
              refine ⟨i + 1, ps ++ [(.slice none 0 0, .slice none 0 0)], by omega, by go_num, by rw [List.flatMap_append]; exact HO1.out, HX1.out, ?_, HB1.out⟩
              rw [mtM_succ, HMT.out]
              exact MSub.snoc (HS5.out.imp (fun v l h => own_kept (own_below h HW.out) (by decide) HKP.out)) (World.ownsRow_nil _ _ _ _) (World.ownsRow_nil _ _ _ _)
            case measure => simp [intOf]; omega
          | true =>
            have HMT2 := Lib.hid (show mt1 ss rs i = ofQ q from HMT.out)
            have HCALL := Lib.hid (fun (W : World) (hW : Below wr.heap.size wr W) => refOf_any q.1 q.2 _ _ B W (K1.out.below hW hBr) (K2.out.below hW hBr) (by have := hW.size; omega) HE.out.1 HE.out.2)
            have hW2 : Below wr.heap.size wr (wr.alloc (.cells #[.slice none 0 0, .slice none 0 0] 32)) :=
              (Below.refl _ wr).alloc (Nat.le_refl _) _
            have hk2 : (wr.alloc (.cells #[.slice none 0 0, .slice none 0 0] 32)).heap[wr.heap.size]? = some (.cells #[.slice none 0 0, .slice none 0 0] 32 (0, 0)) := heap_new wr (.cells #[.slice none 0 0, .slice none 0 0] 32)
            have HW2 := Lib.hid hW2
            have HK2 := Lib.hid hk2
            clear hW2 hk2
            go_wp2_with fail
            refine (HCALL.out _ HW2.out).mono ?_
            rintro e w5 ⟨v1', v2', rfl, o1, o2, hb5⟩
            obtain ⟨g1, d1, e1⟩ := o1.form
            obtain ⟨g2, d2, e2⟩ := o2.form
            rw [List.length_map] at e1 e2
            subst e1
            subst e2
            have hz2 := HW2.out.size
            have hb6 : Below wr.heap.size wr w5 := HW2.out.trans (hb5.mono hz2)
            have hk5 : w5.heap[wr.heap.size]? = some (.cells #[.slice none 0 0, .slice none 0 0] 32 (0, 0)) := (hb5.block _ (lt_of_block HK2.out)).trans HK2.out
            have O1 := Lib.hid (show OwnL w5 w.heap.size (.slice g1 q.1.length d1) (q.1.map isRefQ) from own_mono o1 (by omega))
            have O2 := Lib.hid (show OwnL w5 w.heap.size (.slice g2 q.2.length d2) (q.2.map isRefQ) from own_mono o2 (by omega))
            have hz5 := hb6.size
            have hk5lt := lt_of_block hk5
            have z0 := cells_of hk5 0
            have z1 := cells_of hk5 1
            have f0 := free_of hk5 0
            have f1 := free_of hk5 1
            simp only [List.getElem?_toArray, List.getElem?_cons_succ, List.getElem?_cons_zero] at z0 z1
            have hW : Below wr.heap.size wr (((w5.setCell ⟨wr.heap.size, 0, none⟩ (.slice g1 q.1.length d1)).setCell ⟨wr.heap.size, 1, none⟩ (.slice g2 q.2.length d2)).alloc (.cells #[.slice g1 q.1.length d1, .slice g2 q.2.length d2] 32)) :=
              ((hb6.setCell (p := ⟨wr.heap.size, 0, none⟩) (Nat.le_refl _) _).setCell (p := ⟨wr.heap.size, 1, none⟩) (Nat.le_refl _) _).alloc (by simp; omega) _
            have hO : ∀ v l, OwnL w5 w.heap.size v l → OwnL (((w5.setCell ⟨wr.heap.size, 0, none⟩ (.slice g1 q.1.length d1)).setCell ⟨wr.heap.size, 1, none⟩ (.slice g2 q.2.length d2)).alloc (.cells #[.slice g1 q.1.length d1, .slice g2 q.2.length d2] 32)) w.heap.size v l := fun v l h => by
              have a := own_set_ty h hk5 (by decide) 0 (.slice g1 q.1.length d1)
              exact World.ownsRow.alloc (own_set_ty a (heap_set_eq hk5 (by simp)) (by decide) 1 _) _
            have HW := Lib.hid hW
            have HOW := Lib.hid hO
            clear hW hO o1 o2 hb5 hb6 hk5 HCALL x0 x1 x2 y0 y1 y2
            have na := new_at ((w5.setCell ⟨wr.heap.size, 0, none⟩ (.slice g1 q.1.length d1)).setCell ⟨wr.heap.size, 1, none⟩ (.slice g2 q.2.length d2)) [.slice g1 q.1.length d1, .slice g2 q.2.length d2] 32
            simp only [World.size_setCell] at na
            have NA := Lib.hid na
            clear na
            have NB := Lib.hid (show ∀ u ∈ [Value.slice g1 q.1.length d1, Value.slice g2 q.2.length d2], u.oneCell' = true from fun u hu => by simp at hu; rcases hu with rfl | rfl <;> rfl)
            have NC := Lib.hid (show i + 1 ≤ maxLen by unfold maxLen; omega)
            have ND := Lib.hid (show (i + 1) * 48 ≤ 140737488355328 by omega)
            have NE := Lib.hid (show w.heap.size ≤ (((w5.setCell ⟨wr.heap.size, 0, none⟩ (.slice g1 q.1.length d1)).setCell ⟨wr.heap.size, 1, none⟩ (.slice g2 q.2.length d2)).alloc (.cells #[.slice g1 q.1.length d1, .slice g2 q.2.length d2] 32)).heap.size by have := HW.out.size; omega)
            go_wp2_with (at_builtin; refine wpList_append_own _ rfl (.tmp 41) (.tmp 43) 36 rfl w.heap.size 32 i32 (.agg #[.slice none 0 0, .slice none 0 0]) 2 48 und36w hi32 hz32 hs32 hb32 rfl (by decide) (.slice g i d) i _ rfl (own_below HO.out HW.out) ⟨_, 0, none⟩ 1 1 [.slice g1 q.1.length d1, .slice g2 q.2.length d2] rfl rfl NA.out NB.out NC.out ND.out NE.out ?_)
            intro v1 w1 own1 hg1 _
            have HKP := Lib.hid (own_grown (own_below HO.out HW.out) (by have := HW.out.size; omega) hg1)
            have HX1 := Lib.hid (HKP.out.other _ _ _ _ (by decide) ((HW.out.block _ hxw).trans HX.out))
            have HO1 := Lib.hid own1
            have HB1 := Lib.hid ((HBW.out.trans (HW.out.mono hsz)).trans HKP.out.below)
            obtain ⟨g1', d1', rfl⟩ := own_form own1
            clear own1 hg1
            go_wp2
            go_roundw
            case rel =>
              refine ⟨i + 1, ps ++ [(.slice g1 q.1.length d1, .slice g2 q.2.length d2)], by omega, by go_num, by rw [List.flatMap_append]; exact HO1.out, HX1.out, ?_, HB1.out⟩
              rw [mtM_succ, HMT2.out]
              exact MSub.snoc (HS5.out.imp (fun v l h => own_kept (own_below h HW.out) (by decide) HKP.out)) (own_kept (HOW.out _ _ O1.out) (by decide) HKP.out) (own_kept (HOW.out _ _ O2.out) (by decide) HKP.out)
            case measure => simp [intOf]; omega
        · obtain rfl : i = lr := by omega
          clear x0 x1 x2
          have hx := HX.out
          have x0 := cells_of hx 0
          simp only [List.getElem?_toArray, List.getElem?_cons_succ, List.getElem?_cons_zero] at x0
          clear hx
          go_wp2
          go_ret
          rw [← HM1.out]
          refine ⟨_, rfl, ⟨ps, HS5.out.imp (fun v l h => h.row), ?_⟩, HBW.out⟩
          rw [mtM_len]
          exact Row.of_own HO.out
    · have HM1 := Lib.hid (show [] = M by rw [← HM.out, if_neg (fun h => h2 h.2)])
      obtain ⟨n1, n2, n3, n4, n5, n6⟩ := nil_len lr n h2
      subst h1
      clear HM h2
      go_enter Try.func12, Try.ntmps12
      go_wp2
      go_ret
      rw [← HM1.out]
      exact ⟨_, rfl, MRow.nil _ _, HB0.out⟩
  · have HM1 := Lib.hid (show [] = M by rw [← HM.out, if_neg (fun h => h1 h.1)])
    obtain ⟨n1, n2, n3, n4, n5, n6⟩ := nil_len ls n h1
    clear HM h1
    go_enter Try.func12, Try.ntmps12
    go_wp2
    go_ret
    rw [← HM1.out]
    exact ⟨_, rfl, MRow.nil _ _, HB0.out⟩
end Go.Proofs.Ytgepgbpjdjbelaa
