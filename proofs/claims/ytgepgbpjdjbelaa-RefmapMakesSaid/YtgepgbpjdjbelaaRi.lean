/-
  WALK of Unpack.
-/
import Derived.Test.YtgepgbpjdjbelaaRh
set_option linter.unusedVariables false
set_option linter.unusedSimpArgs false
namespace Go.Proofs.Ytgepgbpjdjbelaa
open Go.RowKit

theorem MRow.nil (B : Nat) (w : World) : MRow B w (.slice Option.none 0 0) [] := ⟨[], MSub.nil, _, _, rfl, Nat.le_refl _, by unfold maxLen; simp, by simp, fun h => absurd h (by simp)⟩
/-- What Unpack answers. -/
def UAns (w : World) (r : List MP × Nat) (e : Ending) (w' : World) : Prop := Below w.heap.size w w' ∧ ∃ v, e = .returned (.tuple #[v, .int .i64 ((r.2 : Nat) : Int)]) ∧ MRow w'.heap.size w' v r.1
def unpT : RL → List MP × Nat
  | .no e => ([], e)
  | .yes l r => if r = [] then (l, 0) else ([], 6)
theorem unp_T (a b : UInt8) (s : List UInt8) : unp (a :: b :: s) = if 4096 < a.toNat * 256 + b.toNat then ([], 3) else unpT (readL (a.toNat * 256 + b.toNat) s) := by
  rw [unp_two]
  cases readL (a.toNat * 256 + b.toNat) s <;> rfl
theorem or_256 (x y : Nat) (hx : x < 256) (hy : y < 256) : bits BinOp.or IntKind.i64 ((x * 256 : Nat) : Int) (y : Int) = ((x * 256 + y : Nat) : Int) := by
  have h1 : ∀ a : Nat, a < 18446744073709551616 → (BitVec.ofInt 64 (a : Int)).toNat = a := fun a ha => by
    rw [BitVec.ofInt_natCast, BitVec.toNat_ofNat]
    exact Nat.mod_eq_of_lt ha
  show IntKind.i64.wrap ((BitVec.ofInt 64 ((x * 256 : Nat) : Int) ||| BitVec.ofInt 64 (y : Int)).toNat : Int) = _
  rw [BitVec.toNat_or, h1 _ (by omega), h1 _ (by omega)]
  have : x * 256 ||| y = x * 256 + y := by
    have := Nat.shiftLeft_add_eq_or_of_lt (i := 8) (b := y) (by omega) x
    rw [Nat.shiftLeft_eq] at this
    exact this.symm
  rw [this]
  exact IntWalk.i64_in _ (by omega)
def catL (ms : List MP) : RL → RL
  | .no e => .no e
  | .yes l r => .yes (ms ++ l) r
theorem catL_nil (r : RL) : catL [] r = r := by cases r <;> rfl
theorem catL_cons (ms : List MP) (m : MP) (n : Nat) (s r : List UInt8) (h : readM s = .yes m r) : catL ms (readL (n + 1) s) = catL (ms ++ [m]) (readL n r) := by
  rw [readL, h]
  simp only
  cases readL n r with
  | no e => rfl
  | yes l q => simp [catL]
theorem catL_no (ms : List MP) (n e : Nat) (s : List UInt8) (h : readM s = .no e) : catL ms (readL (n + 1) s) = .no e := by
  rw [readL, h]
  rfl
theorem set_maps : ∀ (ps : List (Value × Value)) (i : Nat) (p : Value × Value), i < ps.length → ((ps.flatMap mcells).set (i * 2) p.1).set (i * 2 + 1) p.2 = (ps.set i p).flatMap mcells
  | [], i, p, h => by simp at h
  | q :: ps, 0, p, h => rfl
  | q :: ps, i + 1, p, h => by
    have ih := set_maps ps i p (by simpa using h)
    rw [List.set_cons_succ, List.flatMap_cons, List.flatMap_cons, ← ih]
    have e1 : (i + 1) * 2 = i * 2 + 1 + 1 := by omega
    rw [e1]
    rfl
theorem maps_len : ∀ (ps : List (Value × Value)), (ps.flatMap mcells).length = ps.length * 2
  | [] => rfl
  | p :: ps => by
    rw [List.flatMap_cons, List.length_append, maps_len ps, List.length_cons]
    show 2 + _ = _
    omega
theorem und35 : Try.prog.underlying 35 = some (.slice 27) := by kernel_rfl
theorem info27 : (Try.prog.info? 27).map (fun i => (i.zero, i.size, i.bytes)) = some (some (.agg #[.slice none 0 0, .slice none 0 0]), 2, 48) := by kernel_rfl
theorem made_maps (n : Nat) : (madeCells #[Value.slice none 0 0, .slice none 0 0] (n * 2)).toList = (List.replicate n ((Value.slice none 0 0, Value.slice none 0 0) : Value × Value)).flatMap mcells := by
  apply List.ext_getElem?
  intro j
  have hl : ((List.replicate n ((Value.slice none 0 0, Value.slice none 0 0) : Value × Value)).flatMap mcells).length = n * 2 := by rw [maps_len, List.length_replicate]
  by_cases hj : j < n * 2
  · have h1 : ((List.replicate n ((Value.slice none 0 0, Value.slice none 0 0) : Value × Value)).flatMap mcells)[j]? = some (.slice none 0 0) := by
      have h2 := flat_at mcells 2 (fun _ => rfl) (List.replicate n ((Value.slice none 0 0, Value.slice none 0 0) : Value × Value)) (j / 2) _ (by rw [List.getElem?_replicate, if_pos (by omega)]) (j % 2) (by omega)
      rw [show j / 2 * 2 + j % 2 = j by omega] at h2
      rw [h2]
      rcases Nat.mod_two_eq_zero_or_one j with e | e <;> rw [e] <;> rfl
    rw [h1]
    unfold madeCells
    rcases Nat.mod_two_eq_zero_or_one j with e | e <;> simp [hj, e]
  · rw [List.getElem?_eq_none (by simp [madeCells]; omega), List.getElem?_eq_none (by rw [hl]; omega)]
theorem make_maps (w : World) (n : Nat) (hn : n ≤ 4096) :
    ∃ w', (Instr.makeSlice 35 (.int .i64 (n : Int)) (.int .i64 (n : Int))).run Try.prog w = .ok (.slice (some ⟨w.heap.size, 0, none⟩) n n) w' ∧ w'.heap[w.heap.size]? = some (.cells ((List.replicate n ((Value.slice none 0 0, Value.slice none 0 0) : Value × Value)).flatMap mcells).toArray 27 (0, 0)) ∧ Below w.heap.size w w' := by
  obtain ⟨i0, hi, hz0, hz1, hz2⟩ := info_parts info27
  obtain ⟨w', hr, hown, hg⟩ := run_make_full (P := Try.prog) w w.heap.size 35 27 i0 _ 2 und35 hi hz0 hz1 .i64 .i64 n (by rw [hz2]; omega) (by unfold maxLen; omega) (Nat.le_refl _)
  rcases hown.2 with ⟨h', _⟩ | ⟨g, cap, cur, h', _, hgg, _, _, hcs, htake⟩
  · simp at h'
  · simp only [Value.slice.injEq, Option.some.injEq, Addr.mk.injEq, and_true, true_and] at h'
    obtain ⟨rfl, rfl⟩ := h'
    have e2 := htake
    rw [show (Value.agg #[Value.slice none 0 0, Value.slice none 0 0]).cells = #[Value.slice none 0 0, .slice none 0 0] from rfl, made_maps] at e2
    have e3 : cur.toList = (List.replicate n ((Value.slice none 0 0, Value.slice none 0 0) : Value × Value)).flatMap mcells := by rw [← e2, List.take_of_length_le (by rw [Array.length_toList, hcs]; exact Nat.le_refl _)]
    have e4 : cur = ((List.replicate n ((Value.slice none 0 0, Value.slice none 0 0) : Value × Value)).flatMap mcells).toArray := by rw [← e3]
    exact ⟨w', hr, by rw [← e4]; exact hgg, (Below.refl _ _).grown hg (Nat.le_refl _) (fun k hk => by cases hk)⟩
theorem own_set_ty {w : World} {base : Nat} {e : TypeId} {size : Nat} {v : Value} {n : Nat} {xs : List Value} (h : w.ownsRow base e size v n xs) {b : Nat} {cs : Array Value} {t : TypeId} {m : Nat × Nat} (hb : w.heap[b]? = some (.cells cs t m)) (ht : t ≠ e) (i : Nat) (u : Value) : (w.setCell ⟨b, i, none⟩ u).ownsRow base e size v n xs :=
  own_but h ((But.refl b b w).set b (.inl rfl)) (own_ne h hb ht) (own_ne h hb ht)
theorem readM_ne {s : List UInt8} : readM s ≠ .no 0 := by
  intro h
  have := readL_ne 1 s
  rw [readL, h] at this
  exact this rfl
theorem set_two {w : World} {b i : Nat} {l : List Value} {t : TypeId} {m : Nat × Nat} {u v : Value} (h : w.heap[b]? = some (.cells l.toArray t m)) (hi : i + 1 < l.length) : ((w.setCell ⟨b, i, none⟩ u).setCell ⟨b, i + 1, none⟩ v).heap[b]? = some (.cells ((l.set i u).set (i + 1) v).toArray t m) := by
  have h1 := heap_set_eq (u := u) (i := i) h (by simp; omega)
  have h2 := heap_set_eq (u := v) (i := i + 1) h1 (by simp; omega)
  simpa using h2
theorem take_set {α : Type} {l : List α} {i : Nat} {p : α} (hi : i < l.length) : (l.set i p).take (i + 1) = l.take i ++ [p] := by
  rw [List.take_succ_eq_append_getElem (by simpa using hi), List.take_set_of_le (Nat.le_refl _), List.getElem_set_self]
set_option maxRecDepth 1000000 in
set_option maxHeartbeats 6400000 in
theorem Unpack_any (s : ByteArray) (w : World) : Calls Try.prog 15 #[.string s] w (UAns w (unp (L s))) := by
  by_cases hs : s.size < 2
  · have hr : unp (L s) = ([], 5) := by
      have : (L s).length < 2 := by rw [← size_L]; exact hs
      match L s, this with
      | [], _ => rfl
      | [_], _ => rfl
    rw [hr]
    have hsi : (s.size : Int) < 2 := by omega
    clear hr hs
    go_enter Try.func15, Try.ntmps15
    go_wp2
    go_ret2
    exact ⟨Below.refl _ _, _, rfl, MRow.nil _ _⟩
  · have h0 : 0 < s.size := by omega
    have h1 : 1 < s.size := by omega
    have h0i : (0 : Int) < (s.size : Int) := by omega
    have h1i : (1 : Int) < (s.size : Int) := by omega
    have h2i : ¬ (s.size : Int) < 2 := by omega
    have h2i' : (2 : Int) ≤ (s.size : Int) := by omega
    have hx : (s[0]'h0).toNat < 256 := (s[0]'h0).toNat_lt
    have hy : (s[1]'h1).toNat < 256 := (s[1]'h1).toNat_lt
    obtain ⟨R, hR⟩ : ∃ R, unp (L s) = R := ⟨_, rfl⟩
    rw [hR]
    rw [L_two h0 h1, unp_T] at hR
    obtain ⟨x, hxe⟩ : ∃ x, (s[0]'h0).toNat = x := ⟨_, rfl⟩
    obtain ⟨y, hye⟩ : ∃ y, (s[1]'h1).toNat = y := ⟨_, rfl⟩
    rw [hxe, hye] at hR
    rw [hxe] at hx
    rw [hye] at hy
    obtain ⟨t, ht⟩ : ∃ t, s.extract 2 s.size = t := ⟨_, rfl⟩
    rw [ht] at hR
    obtain ⟨n, hn⟩ : ∃ n, x * 256 + y = n := ⟨_, rfl⟩
    have hor := or_256 x y hx hy
    rw [hn, show ((x * 256 : Nat) : Int) = (x : Int) * 256 by omega] at hor
    rw [hn] at hR
    have HR := Lib.hid hR
    have hwx : IntKind.i64.wrap ((x : Int) * 256) = (x : Int) * 256 := IntWalk.i64_in _ (by omega)
    clear hR
    by_cases hm : 4096 < n
    · have HR1 := Lib.hid (show ([], 3) = R by rw [← HR.out, if_pos hm])
      have hmi : (4096 : Int) < (n : Int) := by omega
      clear hm hn HR
      go_enter Try.func15, Try.ntmps15
      go_wp2
      go_region
      go_wp2
      go_ret2
      rw [← HR1.out]
      exact ⟨(Below.refl _ _).drew, _, rfl, MRow.nil _ _⟩
    · have HR1 := Lib.hid (show unpT (readL n (L t)) = R by rw [← HR.out, if_neg hm])
      have hmi : ¬ (4096 : Int) < (n : Int) := by omega
      have hn4 : n ≤ 4096 := by omega
      have hnI : (n : Int) ≤ 4096 := by omega
      obtain ⟨w3, hmk, hcs, hb3⟩ := make_maps w.drew n hn4
      clear hm hn HR
      go_enter Try.func15, Try.ntmps15
      go_wp2
      go_region
      go_wp2
      have hw3 := hb3.size
      obtain ⟨ob, hob⟩ : ∃ b, w.heap.size = b := ⟨_, rfl⟩
      have hcs' : w3.heap[ob]? = some (.cells ((List.replicate n ((Value.slice none 0 0, Value.slice none 0 0) : Value × Value)).flatMap mcells).toArray 27 (0, 0)) := by rw [← hob]; exact hcs
      have hob2 : w.heap.size ≤ ob := by omega
      have HB3 := Lib.hid (show Below w.heap.size w w3 from (Below.refl _ w).drew.trans hb3)
      have HC := Lib.hid hcs'
      rw [hob]
      clear hcs hcs' hmk hb3 hob
      go_loopw [5, 28] (fun sv iv wx => ∃ (i : Nat) (rest : ByteArray) (ms : List MP) (ps : List (Value × Value)), i ≤ n ∧ iv = .int .i64 (i : Int) ∧ sv = .string rest ∧ readL n (L t) = catL ms (readL (n - i) (L rest)) ∧ ms.length = i ∧ ps.length = n ∧ wx.heap[ob]? = some (.cells (ps.flatMap mcells).toArray 27 (0, 0)) ∧ MSub (OwnL wx w.heap.size) ms (ps.take i) ∧ Below w.heap.size w wx) (fun _ iv _ => n - (intOf iv).toNat)
      case atStart => exact ⟨0, t, [], _, Nat.zero_le _, rfl, rfl, (catL_nil _).symm, rfl, List.length_replicate, HC.out, by rw [List.take_zero]; exact MSub.nil, HB3.out⟩
      case round =>
        obtain ⟨i, rest, ms, ps, hin, rfl, rfl, hrd, hms, hps, hc, hsub, hbw⟩ := hrel
        have HRD := Lib.hid hrd
        have HS := Lib.hid hsub
        have HBW := Lib.hid hbw
        have HC2 := Lib.hid hc
        have hsz := hbw.size
        have hobw := lt_of_block hc
        have HMS := Lib.hid hms
        have HPS := Lib.hid hps
        clear hrd hsub hbw hc HB3 HC hw3 hms hps
        by_cases hlt : i < n
        · obtain ⟨r, hr⟩ : ∃ r, readM (L rest) = r := ⟨_, rfl⟩
          have HM := Lib.hid hr
          have HCALL := Lib.hid (hr ▸ readMap_any rest wr)
          clear hr
          go_wp2_with fail
          refine HCALL.out.mono ?_
          rintro e w5 ⟨hb5, hans⟩
          have HC5 := Lib.hid ((hb5.block _ hobw).trans HC2.out)
          have HB5 := Lib.hid (Below.link' HBW.out hb5)
          have HS5 := Lib.hid (HS.out.imp (fun v l (h : OwnL wr w.heap.size v l) => h.below hb5))
          have hz5 := hb5.size
          have hps := HPS.out
          obtain ⟨p, hp⟩ : ∃ p, ps[i]? = some p := ⟨_, List.getElem?_eq_getElem (by omega)⟩
          have hlen : i * 2 + 1 < (ps.flatMap mcells).length := by rw [maps_len]; omega
          have hcell : ∀ (W : World), W.heap[ob]? = some (.cells (ps.flatMap mcells).toArray 27 (0, 0)) → W.cell? ⟨ob, i * 2, none⟩ = some p.1 ∧ W.cell? ⟨ob, i * 2 + 1, none⟩ = some p.2 := fun W hW => by
            have f0 := flat_at mcells 2 (fun _ => rfl) ps i p hp 0 (by omega)
            have f1 := flat_at mcells 2 (fun _ => rfl) ps i p hp 1 (by omega)
            refine ⟨?_, ?_⟩
            · rw [cells_of hW, List.getElem?_toArray]
              exact f0
            · rw [cells_of hW, List.getElem?_toArray]
              exact f1
          obtain ⟨c0, c1⟩ := hcell _ HC5.out
          have fr0 := free_of HC5.out (i * 2)
          have fr1 := free_of HC5.out (i * 2 + 1)
          have hob5 := lt_of_block HC5.out
          have hi2 : (i : Int) < (n : Int) := by omega
          have HLEN := Lib.hid hlen
          clear hps hp hcell hlen
          cases r with
          | no k =>
            obtain rfl := hans
            have HR2 := Lib.hid (show ([], k) = R by
              rw [← HR1.out, HRD.out, show n - i = (n - i - 1) + 1 by omega, catL_no _ _ _ _ HM.out]
              rfl)
            have hk0 : k ≠ 0 := by
              rintro rfl
              exact readM_ne HM.out
            have hkb : ((k : Int) != 0) = true := by rw [bne_iff_ne]; omega
            have hkb' : ((k : Int) == 0) = false := by rw [beq_eq_false_iff_ne]; omega
            clear hk0 hb5 HCALL
            go_wp2
            go_ret2
            rw [← HR2.out]
            exact ⟨(HB5.out.setCell (p := ⟨ob, i * 2, none⟩) hob2 _).setCell (p := ⟨ob, i * 2 + 1, none⟩) hob2 _, _, rfl, MRow.nil _ _⟩
          | yes m q =>
            obtain ⟨v1', v2', rest2, rfl, hq, o1, o2⟩ := hans
            obtain ⟨g1, d1, e1⟩ := o1.form
            obtain ⟨g2, d2, e2⟩ := o2.form
            obtain ⟨v1, hv1⟩ : ∃ v, v = v1' := ⟨_, rfl⟩
            obtain ⟨v2, hv2⟩ : ∃ v, v = v2' := ⟨_, rfl⟩
            rw [← hv1] at o1 e1 ⊢
            rw [← hv2] at o2 e2 ⊢
            have HQ := Lib.hid hq
            have O1 := Lib.hid (show OwnL w5 w.heap.size v1 m.1 from own_mono o1 hsz)
            have O2 := Lib.hid (show OwnL w5 w.heap.size v2 m.2 from own_mono o2 hsz)
            have E1 := Lib.hid e1
            have E2 := Lib.hid e2
            rw [e1, e2]
            clear hq o1 o2 hb5 HCALL hv1 hv2 e1 e2
            go_wp2
            go_roundw
            case rel =>
              rw [← E1.out, ← E2.out]
              have hset := set_two (u := v1) (v := v2) HC5.out HLEN.out
              have hps := HPS.out
              refine ⟨i + 1, rest2, ms ++ [m], ps.set i (v1, v2), by omega, by go_num, rfl, ?_, by simp [HMS.out], by rw [List.length_set]; exact hps, ?_, ?_, (HB5.out.setCell (p := ⟨ob, i * 2, none⟩) hob2 _).setCell (p := ⟨ob, i * 2 + 1, none⟩) hob2 _⟩
              · rw [HRD.out, show n - i = (n - (i + 1)) + 1 by omega, catL_cons _ _ _ _ _ HM.out, HQ.out]
              · have := set_maps ps i (v1, v2) (by omega)
                rw [← this]
                exact hset
              · rw [take_set (by omega)]
                have hk : ∀ v l, OwnL w5 w.heap.size v l → OwnL ((w5.setCell ⟨ob, i * 2, none⟩ v1).setCell ⟨ob, i * 2 + 1, none⟩ v2) w.heap.size v l := fun v l h => by
                  have a := own_set_ty h HC5.out (by decide) (i * 2) v1
                  exact own_set_ty a (heap_set_eq HC5.out (by simp; have := HLEN.out; simp at this; omega)) (by decide) (i * 2 + 1) v2
                exact MSub.snoc (HS5.out.imp hk) (hk _ _ O1.out) (hk _ _ O2.out)
            case measure => simp [intOf]; omega
        · obtain rfl : i = n := by omega
          have HE := Lib.hid (show unpT (.yes ms (L rest)) = R by
            rw [← HR1.out, HRD.out, Nat.sub_self]
            show _ = unpT (.yes (ms ++ []) (L rest))
            rw [List.append_nil])
          by_cases hrest : L rest = []
          · have HR2 := Lib.hid (show (ms, 0) = R by rw [← HE.out]; exact (if_pos hrest).symm)
            have e0 : rest.toList = [] := by rw [toList_data]; exact hrest
            clear hrest
            go_wp2
            go_ret2
            rw [← HR2.out]
            refine ⟨HBW.out, _, rfl, ps, ?_, ?_⟩
            · have := HS.out
              rw [List.take_of_length_le (by rw [HPS.out]; exact Nat.le_refl _)] at this
              exact this.imp (fun v l h => h.row)
            · have h1 := HMS.out
              have h2 := HPS.out
              show Row wr.heap.size 2 wr (.slice (some ⟨ob, 0, none⟩) i i) ms.length _
              rw [h1]
              exact Row.of_own (own_new (base := w.heap.size) (size := 2) HC2.out hob2 (by rw [maps_len, h2]) (by unfold maxLen; omega))
          · have HR2 := Lib.hid (show ([], 6) = R by rw [← HE.out]; exact (if_neg hrest).symm)
            have e0 : rest.toList.isEmpty = false := by rw [toList_data]; simpa using hrest
            clear hrest
            go_wp2
            go_ret2
            rw [← HR2.out]
            exact ⟨HBW.out, _, rfl, MRow.nil _ _⟩
end Go.Proofs.Ytgepgbpjdjbelaa
