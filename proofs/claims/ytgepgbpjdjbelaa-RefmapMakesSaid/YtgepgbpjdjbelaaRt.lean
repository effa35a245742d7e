/-
  WALK of Make: a method's maps.
-/
import Derived.Test.YtgepgbpjdjbelaaRs
set_option linter.unusedVariables false
set_option linter.unusedSimpArgs false
namespace Go.Proofs.Ytgepgbpjdjbelaa
open Go.RowKit

/-- A state: its locals and its stack. -/
abbrev SQ := List KQ × List KQ
def SSub (R : Value → List KQ → Prop) (l : List SQ) (ps : List (Value × Value)) : Prop :=
  ps.length = l.length ∧ ∀ (i : Nat) (x : SQ) (p : Value × Value), l[i]? = some x → ps[i]? = some p → R p.1 x.1 ∧ R p.2 x.2
/-- A row of states that is read. -/
def SRow (B : Nat) (w : World) (v : Value) (l : List SQ) : Prop := ∃ ps, SSub (KRow B w) l ps ∧ Row B 2 w v l.length (ps.flatMap mcells)
theorem SRow.form {B : Nat} {w : World} {v : Value} {l : List SQ} (h : SRow B w v l) : ∃ A c, v = .slice A l.length c ∧ l.length ≤ c ∧ l.length ≤ maxLen := by
  obtain ⟨ps, _, A, c, e, h1, h2, _⟩ := h
  exact ⟨A, c, e, h1, h2⟩
theorem SRow.below {B B' : Nat} {w w' : World} {v : Value} {l : List SQ} (h : SRow B w v l) (hb : Below B' w w') (hB : B ≤ B') : SRow B w' v l := by
  obtain ⟨ps, h1, h2⟩ := h
  exact ⟨ps, ⟨h1.1, fun i x p a b => ⟨(h1.2 i x p a b).1.below hb hB, (h1.2 i x p a b).2.below hb hB⟩⟩, Row.keep h2 fun p hp => hb.cell (p := p) (by omega)⟩
theorem SRow.at_ {B : Nat} {w : World} {A : Option Addr} {n cap : Nat} {l : List SQ} {k : Nat} {x : SQ} (h : SRow B w (.slice A n cap) l) (hk : l[k]? = some x) :
    ∃ b o A1 c1 A2 c2, A = some ⟨b, o, none⟩ ∧ b < B ∧ KRow B w (.slice A1 x.1.length c1) x.1 ∧ KRow B w (.slice A2 x.2.length c2) x.2 ∧
      w.cell? ⟨b, o + k * 2, none⟩ = some (.slice A1 x.1.length c1) ∧ w.cell? ⟨b, o + k * 2 + 1, none⟩ = some (.slice A2 x.2.length c2) := by
  obtain ⟨ps, ⟨hl1, hr⟩, A', cap', e, _, _, _, h2⟩ := h
  injection e with e1 e2 e3
  subst e1
  have hl : k < l.length := (List.getElem?_eq_some_iff.1 hk).1
  obtain ⟨b, o, e, hb, hc⟩ := h2 (by omega)
  have hv : ps[k]? = some (ps[k]'(by omega)) := List.getElem?_eq_getElem (by omega)
  obtain ⟨r1, r2⟩ := hr k x _ hk hv
  generalize ps[k]'(by omega) = hx at hv r1 r2
  obtain ⟨A1, c1, e1, _⟩ := id r1
  obtain ⟨A2, c2, e2, _⟩ := id r2
  have key : ∀ j u, j < 2 → (mcells hx)[j]? = some u → w.cell? ⟨b, o + k * 2 + j, none⟩ = some u := fun j u hj hu => by
    rw [Nat.add_assoc]
    exact hc _ _ ((flat_at mcells 2 (fun _ => rfl) _ k _ hv j hj).trans hu)
  rw [e1] at r1
  rw [e2] at r2
  exact ⟨b, o, A1, c1, A2, c2, e, hb, r1, r2, key 0 _ (by omega) (by rw [← e1]; rfl), key 1 _ (by omega) (by rw [← e2]; rfl)⟩
def ofQ (s : SQ) : MP := (s.1.map isRefQ, s.2.map isRefQ)
def mt1 (ss : List SQ) (rs : List Bool) (i : Nat) : MP := if (rs[i]?).getD false = true then ofQ ((ss[i]?).getD ([], [])) else ([], [])
def mtM (ss : List SQ) (rs : List Bool) (n : Nat) : List MP := (List.range n).map (mt1 ss rs)
theorem mtM_len (ss : List SQ) (rs : List Bool) (n : Nat) : (mtM ss rs n).length = n := by simp [mtM]
theorem mtM_succ (ss : List SQ) (rs : List Bool) (n : Nat) : mtM ss rs (n + 1) = mtM ss rs n ++ [mt1 ss rs n] := by simp [mtM, List.range_succ]
/-- What Make answers. -/
def mkT (ss : List SQ) (rs : List Bool) (n : Nat) : List MP := if ss.length = n ∧ rs.length = n then mtM ss rs n else []
theorem make_mapsW (w : World) (n : Nat) (hn : n ≤ 2932031007402) :
    ∃ w', (Instr.makeSlice 35 (.int .i64 (n : Int)) (.int .i64 (n : Int))).run Try.prog w = .ok (.slice (some ⟨w.heap.size, 0, none⟩) n n) w' ∧ w'.heap[w.heap.size]? = some (.cells ((List.replicate n ((Value.slice none 0 0, Value.slice none 0 0) : Value × Value)).flatMap mcells).toArray 27 (0, 0)) ∧ Below w.heap.size w w' := by
  obtain ⟨i0, hi, hz0, hz1, hz2⟩ := info_parts info27
  obtain ⟨w', hr, hown, hg⟩ := run_make_full (P := Try.prog) w w.heap.size 35 27 i0 _ 2 und35 hi hz0 hz1 .i64 .i64 n (by rw [hz2]; omega) (by unfold maxLen; omega) (Nat.le_refl _)
  rcases hown.2 with ⟨h', _⟩ | ⟨g, cap, cur, h', _, hgg, _, _, hcs, htake⟩
  · simp at h'
  · simp only [Value.slice.injEq, Option.some.injEq, Addr.mk.injEq, and_true, true_and] at h'
    obtain ⟨rfl, rfl⟩ := h'
    have e2 := htake
    rw [show (Value.agg #[Value.slice none 0 0, Value.slice none 0 0]).cells = #[Value.slice none 0 0, .slice none 0 0] from rfl, made_maps] at e2
    have e3 : cur.toList = (List.replicate n ((Value.slice none 0 0, Value.slice none 0 0) : Value × Value)).flatMap mcells := by rw [← e2, List.take_of_length_le (by rw [Array.length_toList, hcs]; exact Nat.le_refl _)]
    have e4 : cur = ((List.replicate n ((Value.slice none 0 0, Value.slice none 0 0) : Value × Value)).flatMap mcells).toArray := by rw [← e3]
    exact ⟨w', hr, by rw [← e4]; exact hgg, (Below.refl _ _).grown hg (Nat.le_refl _) (fun k hk => by cases hk)⟩
set_option maxRecDepth 1000000 in
set_option maxHeartbeats 6400000 in
theorem Make_any (ss : List SQ) (rs : List Bool) (n : Nat) (AL : Option Addr) (cL : Nat) (vs vr : Value) (B : Nat) (w : World) (hs : SRow B w vs ss) (hr : BRow B w vr rs) (hn : n ≤ 9223372036854775807)
    (hB : B ≤ w.heap.size) (hls : ss.length ≤ 2932031007402) (hle : ∀ s ∈ ss, s.1.length ≤ 4000000000000 ∧ s.2.length ≤ 4000000000000) :
    Calls Try.prog 11 #[.agg #[.slice AL n cL, vs, vr]] w fun e w' => ∃ v, e = .returned v ∧ MRow w'.heap.size w' v (mkT ss rs n) ∧ Below w.heap.size w w' := by
  obtain ⟨As, cs, rfl, hcs, hms⟩ := hs.form
  obtain ⟨Ar, cr, rfl, hcr, hmr⟩ := hr.form
  unfold maxLen at hms hmr
  have HS := Lib.hid hs
  have HR := Lib.hid hr
  have HLE := Lib.hid hle
  obtain ⟨ls, hl1⟩ : ∃ m, ss.length = m := ⟨_, rfl⟩
  obtain ⟨lr, hl2⟩ : ∃ m, rs.length = m := ⟨_, rfl⟩
  have HL1 := Lib.hid hl1
  have HL2 := Lib.hid hl2
  rw [hl1] at hcs hms HS hls ⊢
  rw [hl2] at hcr hmr HR ⊢
  obtain ⟨M, hM⟩ : ∃ M, mkT ss rs n = M := ⟨_, rfl⟩
  rw [hM]
  unfold mkT at hM
  rw [hl1, hl2] at hM
  have HM := Lib.hid hM
  have hb0 : Below w.heap.size w (w.alloc (.cells #[.slice AL n cL, .slice As ls cs, .slice Ar lr cr] 39)) := (Below.refl _ w).alloc (Nat.le_refl _) _
  have hx0 : (w.alloc (.cells #[.slice AL n cL, .slice As ls cs, .slice Ar lr cr] 39)).heap[w.heap.size]? = some (.cells #[.slice AL n cL, .slice As ls cs, .slice Ar lr cr] 39 (0, 0)) := heap_new w _
  have HB0 := Lib.hid hb0
  have HX0 := Lib.hid hx0
  clear hs hr hle hl1 hl2 hM hb0 hx0
  by_cases h1 : ls = n
  · by_cases h2 : lr = n
    · subst h1
      subst h2
      have HM1 := Lib.hid (show mtM ss rs lr = M by rw [← HM.out, if_pos ⟨rfl, rfl⟩])
      obtain ⟨w3, hmk, hcs3, hb3⟩ := make_mapsW (w.alloc (.cells #[.slice AL lr cL, .slice As lr cs, .slice Ar lr cr] 39)) lr hls
      rw [World.size_alloc] at hmk hcs3 hb3
      have HX3 := Lib.hid ((hb3.block _ (Nat.lt_succ_self _)).trans HX0.out)
      have HB3 := Lib.hid (HB0.out.trans (hb3.mono (Nat.le_succ _)))
      have HC3 := Lib.hid hcs3
      have hz3 : w.heap.size + 1 + 1 ≤ w3.heap.size := by have := lt_of_block hcs3; omega
      clear HM hcs3 hb3
      go_enter Try.func11, Try.ntmps11
      go_wp2
      go_loopw [27] (fun iv wx => ∃ (i : Nat) (ps : List (Value × Value)), i ≤ lr ∧ iv = .int .i64 (i : Int) ∧ ps.length = lr ∧ (∀ j, i ≤ j → j < lr → ps[j]? = some (Value.slice none 0 0, Value.slice none 0 0)) ∧ wx.heap[w.heap.size + 1]? = some (.cells (ps.flatMap mcells).toArray 27 (0, 0)) ∧ wx.heap[w.heap.size]? = some (.cells #[.slice AL lr cL, .slice As lr cs, .slice Ar lr cr] 39 (0, 0)) ∧ MSub (OwnL wx w.heap.size) (mtM ss rs i) (ps.take i) ∧ Below w.heap.size w wx) (fun iv _ => lr - (intOf iv).toNat)
      case atStart => exact ⟨0, _, Nat.zero_le _, rfl, List.length_replicate, fun j _ hj => by rw [List.getElem?_replicate, if_pos hj], HC3.out, HX3.out, by rw [List.take_zero]; exact MSub.nil, HB3.out⟩
      case round =>
        obtain ⟨i, ps, hin, rfl, hps, hnil, hc, hx, hsub, hbw⟩ := hrel
        have HS5 := Lib.hid hsub
        have HBW := Lib.hid hbw
        have HC := Lib.hid hc
        have HX := Lib.hid hx
        have HNIL := Lib.hid hnil
        have HPS := Lib.hid hps
        have hsz := hbw.size
        have hxw := lt_of_block hx
        have hcw := lt_of_block hc
        have x0 := cells_of hx 0
        have x1 := cells_of hx 1
        have x2 := cells_of hx 2
        simp only [List.getElem?_toArray, List.getElem?_cons_succ, List.getElem?_cons_zero] at x0 x1 x2
        clear hsub hbw hc hx hnil hps HC3 HX3 HB3 hmk hz3
        by_cases hlt : i < lr
        · have hi2 : (i : Int) < (lr : Int) := by omega
          obtain ⟨r, hr⟩ : ∃ r, rs[i]? = some r := ⟨_, List.getElem?_eq_getElem (by rw [HL2.out]; exact hlt)⟩
          obtain ⟨q, hq⟩ : ∃ q, ss[i]? = some q := ⟨_, List.getElem?_eq_getElem (by rw [HL1.out]; exact hlt)⟩
          obtain ⟨b, o, rfl, hbB, y0⟩ := (HR.out.below HBW.out hB).at_ hr
          obtain ⟨b2, o2, A1, c1, A2, c2, rfl, hbB2, k1, k2, y1, y2⟩ := (HS.out.below HBW.out hB).at_ hq
          have K1 := Lib.hid k1
          have K2 := Lib.hid k2
          have hbw1 : b < wr.heap.size := by omega
          have hbw2 : b2 < wr.heap.size := by omega
          have hBr : B ≤ wr.heap.size := by omega
          have HE := Lib.hid (HLE.out q (List.mem_of_getElem? hq))
          have HMT := Lib.hid (show mt1 ss rs i = if r = true then ofQ q else ([], []) by unfold mt1; rw [hr, hq]; rfl)
          clear hr hq k1 k2
          cases r with
          | false =>
            go_wp2
            go_roundw
            case rel =>
              refine ⟨i + 1, ps, by omega, by go_num, HPS.out, fun j h1 h2 => HNIL.out j (by omega) h2, HC.out, HX.out, ?_, HBW.out⟩
              have hp := HNIL.out i (Nat.le_refl _) hlt
              have hlp := HPS.out
              rw [mtM_succ, HMT.out]
              obtain ⟨hk, he⟩ := List.getElem?_eq_some_iff.1 hp
              rw [List.take_succ_eq_append_getElem hk, he]
              exact MSub.snoc HS5.out (World.ownsRow_nil _ _ _ _) (World.ownsRow_nil _ _ _ _)
            case measure => simp [intOf]; omega
          | true =>
            have hmt : mt1 ss rs i = ofQ q := HMT.out
            have HMT2 := Lib.hid hmt
            have HCALL := Lib.hid (Of_any q.1 q.2 _ _ B wr K1.out K2.out hBr HE.out.1 HE.out.2)
            clear hmt
            go_wp2_with fail
            refine HCALL.out.mono ?_
            rintro e w5 ⟨v1', v2', rfl, o1, o2, hb5⟩
            obtain ⟨g1, d1, e1⟩ := o1.form
            obtain ⟨g2, d2, e2⟩ := o2.form
            rw [List.length_map] at e1 e2
            obtain ⟨v1, hv1⟩ : ∃ v, v = v1' := ⟨_, rfl⟩
            obtain ⟨v2, hv2⟩ : ∃ v, v = v2' := ⟨_, rfl⟩
            rw [← hv1] at o1 e1 ⊢
            rw [← hv2] at o2 e2 ⊢
            have O1 := Lib.hid (show OwnL w5 w.heap.size v1 (q.1.map isRefQ) from own_mono o1 hsz)
            have O2 := Lib.hid (show OwnL w5 w.heap.size v2 (q.2.map isRefQ) from own_mono o2 hsz)
            have E1 := Lib.hid e1
            have E2 := Lib.hid e2
            rw [e1, e2]
            have HC5 := Lib.hid ((hb5.block _ hcw).trans HC.out)
            have HX5 := Lib.hid ((hb5.block _ hxw).trans HX.out)
            have HB5 := Lib.hid (Below.link' HBW.out hb5)
            have HS6 := Lib.hid (HS5.out.imp (fun v l (h : OwnL wr w.heap.size v l) => h.below hb5))
            have hz5 := hb5.size
            have hps := HPS.out
            obtain ⟨p, hp⟩ : ∃ p, ps[i]? = some p := ⟨_, List.getElem?_eq_getElem (by omega)⟩
            have hlen : i * 2 + 1 < (ps.flatMap mcells).length := by rw [maps_len]; omega
            have hcell : ∀ (W : World), W.heap[w.heap.size + 1]? = some (.cells (ps.flatMap mcells).toArray 27 (0, 0)) → W.cell? ⟨w.heap.size + 1, i * 2, none⟩ = some p.1 ∧ W.cell? ⟨w.heap.size + 1, i * 2 + 1, none⟩ = some p.2 := fun W hW => by
              have f0 := flat_at mcells 2 (fun _ => rfl) ps i p hp 0 (by omega)
              have f1 := flat_at mcells 2 (fun _ => rfl) ps i p hp 1 (by omega)
              refine ⟨?_, ?_⟩
              · rw [cells_of hW, List.getElem?_toArray]
                exact f0
              · rw [cells_of hW, List.getElem?_toArray]
                exact f1
            obtain ⟨c0', c1'⟩ := hcell _ HC5.out
            have fr0 := free_of HC5.out (i * 2)
            have fr1 := free_of HC5.out (i * 2 + 1)
            have hob5 := lt_of_block HC5.out
            have HLEN := Lib.hid hlen
            clear hps hp hcell hlen x0 x1 x2 y0 y1 y2 o1 o2 e1 e2 hv1 hv2 hb5 HCALL
            go_wp2
            go_roundw
            case rel =>
              rw [← E1.out, ← E2.out]
              have hset := set_two (u := v1) (v := v2) HC5.out HLEN.out
              have hps := HPS.out
              refine ⟨i + 1, ps.set i (v1, v2), by omega, by go_num, by rw [List.length_set]; exact hps, fun j h1 h2 => by rw [List.getElem?_set_ne (by omega)]; exact HNIL.out j (by omega) h2, ?_, ?_, ?_, (HB5.out.setCell (p := ⟨w.heap.size + 1, i * 2, none⟩) (Nat.le_succ _) _).setCell (p := ⟨w.heap.size + 1, i * 2 + 1, none⟩) (Nat.le_succ _) _⟩
              · have := set_maps ps i (v1, v2) (by omega)
                rw [← this]
                exact hset
              · exact heap_set_ne (by show w.heap.size ≠ w.heap.size + 1; omega) (heap_set_ne (by show w.heap.size ≠ w.heap.size + 1; omega) HX5.out)
              · rw [take_set (by omega), mtM_succ, HMT2.out]
                have hk : ∀ v l, OwnL w5 w.heap.size v l → OwnL ((w5.setCell ⟨w.heap.size + 1, i * 2, none⟩ v1).setCell ⟨w.heap.size + 1, i * 2 + 1, none⟩ v2) w.heap.size v l := fun v l h => by
                  have a := own_set_ty h HC5.out (by decide) (i * 2) v1
                  exact own_set_ty a (heap_set_eq HC5.out (by simp; have := HLEN.out; simp at this; omega)) (by decide) (i * 2 + 1) v2
                exact MSub.snoc (HS6.out.imp hk) (hk _ _ O1.out) (hk _ _ O2.out)
            case measure => simp [intOf]; omega
        · obtain rfl : i = lr := by omega
          clear x0 x1 x2
          go_wp2
          go_ret
          rw [← HM1.out]
          refine ⟨_, rfl, ⟨ps, ?_, ?_⟩, HBW.out⟩
          · have := HS5.out
            rw [List.take_of_length_le (by rw [HPS.out]; exact Nat.le_refl _)] at this
            exact this.imp (fun v l h => h.row)
          · have h2 := HPS.out
            rw [mtM_len]
            exact Row.of_own (own_new (base := w.heap.size) (size := 2) HC.out (Nat.le_succ _) (by rw [maps_len, h2]) (by unfold maxLen; omega))
    · have HM1 := Lib.hid (show [] = M by rw [← HM.out, if_neg (fun h => h2 h.2)])
      have hne : ((lr : Int) == (n : Int)) = false := by rw [beq_eq_false_iff_ne]; omega
      have hne2 : ((lr : Int) != (n : Int)) = true := by rw [bne_iff_ne]; omega
      have hne3 : ¬ (lr : Int) = (n : Int) := by omega
      subst h1
      clear HM h2
      go_enter Try.func11, Try.ntmps11
      go_wp2
      go_ret
      rw [← HM1.out]
      exact ⟨_, rfl, MRow.nil _ _, HB0.out⟩
  · have HM1 := Lib.hid (show [] = M by rw [← HM.out, if_neg (fun h => h1 h.1)])
    have hne : ((ls : Int) == (n : Int)) = false := by rw [beq_eq_false_iff_ne]; omega
    have hne2 : ((ls : Int) != (n : Int)) = true := by rw [bne_iff_ne]; omega
    have hne3 : ¬ (ls : Int) = (n : Int) := by omega
    clear HM h1
    go_enter Try.func11, Try.ntmps11
    go_wp2
    go_ret
    rw [← HM1.out]
    exact ⟨_, rfl, MRow.nil _ _, HB0.out⟩
end Go.Proofs.Ytgepgbpjdjbelaa
