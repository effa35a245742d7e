/-
  WALKS: rows of instructions that are the same; the law CodeTurns.
-/
import Derived.Test.YtjdaaecbnhcoaaaDoorMv
set_option linter.unusedVariables false
set_option linter.unusedSimpArgs false
namespace Go.Proofs.YtjdaaecbnhcoaaaDoor
open Go.RowKit

theorem Drawn.nrow {B : Nat} {w wr : World} {v : Value} {l : List In} (h : Drawn w wr) (hr : NRow B w v l) : NRow B wr v l := by
  obtain ⟨m, rfl⟩ := h
  exact hr.drewN m
set_option maxRecDepth 1000000 in
set_option maxHeartbeats 6400000 in
theorem same_eq (B : Nat) (l : List In) (va vb : Value) (w : World) (ha : NRow B w va l) (hb : NRow B w vb l) (hB : B ≤ w.heap.size) :
    Calls Tryd.prog 21 #[va, vb] w fun e w' => e = .returned (.bool true) ∧ Drawn w w' := by
  obtain ⟨Aa, ca, rfl, hca, hma⟩ := ha.form
  obtain ⟨Ab, cb, rfl, hcb, hmb⟩ := hb.form
  unfold maxLen at hma hmb
  have HA := Lib.hid ha
  have HB := Lib.hid hb
  clear ha hb
  go_enter Tryd.func21, Tryd.ntmps21
  go_wp2
  go_loopw [5] (fun i wr => ∃ k : Nat, k ≤ l.length ∧ i = .int .i64 k ∧ Drawn w wr) (fun i _ => l.length - (intOf i).toNat)
  case atStart => exact ⟨0, Nat.zero_le _, rfl, Drawn.refl _⟩
  case round =>
    obtain ⟨k, hk, rfl, hd⟩ := hrel
    have HD := Lib.hid hd
    have hsz := hd.below.size
    clear hd
    by_cases hlt : k < l.length
    · have hx := List.getElem?_eq_getElem hlt
      generalize l[k] = x at hx
      have ra := (HD.out.nrow HA.out).at_ hx
      have rb := (HD.out.nrow HB.out).at_ hx
      obtain ⟨ba, oa, Ak, ck, At, ct, rfl, hbb, hk1, ht1, x0, x1, x2, x3, x4⟩ := ra
      obtain ⟨bc, oc, Ak', ck', At', ct', rfl, hbc, hk2, ht2, z0, z1, z2, z3, z4⟩ := rb
      have HK1 := Lib.hid hk1
      have HK2 := Lib.hid hk2
      have HT1 := Lib.hid ht1
      have HT2 := Lib.hid ht2
      have hBw : B ≤ wr.heap.size := by omega
      have hbaw : ba < wr.heap.size := by omega
      have hbcw : bc < wr.heap.size := by omega
      clear hx hk1 hk2 ht1 ht2
      go_wp2
      go_quiet ((go_at_call 28; exact Calls.quiet_of (sameInts_eq B x.keys _ _ _ (HK1.out.drewN _) (HK2.out.drewN _) hBw)))
      have HD1 := Lib.hid (HD.out.step nq)
      obtain ⟨w1, hw1⟩ : ∃ w1, w1 = wr.drewN nq := ⟨_, rfl⟩
      have HW := Lib.hid hw1
      have hcell := fun a => (show w1.cell? a = wr.cell? a from by rw [hw1]; rfl)
      have x4' := (hcell _).trans x4
      have z4' := (hcell _).trans z4
      have x0' := (hcell _).trans x0
      have x1' := (hcell _).trans x1
      have x2' := (hcell _).trans x2
      have z0' := (hcell _).trans z0
      have z1' := (hcell _).trans z1
      have z2' := (hcell _).trans z2
      have HT1' := Lib.hid (show IRow B w1 _ x.to by rw [hw1]; exact HT1.out.drewN nq)
      have HT2' := Lib.hid (show IRow B w1 _ x.to by rw [hw1]; exact HT2.out.drewN nq)
      have hs1 : w1.heap.size = wr.heap.size := by rw [hw1]; rfl
      have hBw1 : B ≤ w1.heap.size := by omega
      have hbaw1 : ba < w1.heap.size := by omega
      have hbcw1 : bc < w1.heap.size := by omega
      rw [← hw1] at HD1 ⊢
      clear hw1 hcell hs1 x0 x1 x2 x3 x4 z0 z1 z2 z3 z4
      go_wp2
      go_quiet ((go_at_call 28; exact Calls.quiet_of (sameInts_eq B x.to _ _ _ (HT1'.out.drewN _) (HT2'.out.drewN _) hBw1)))
      go_wp2
      go_quiet (fail)
      go_wp2
      go_roundw
      case rel => exact ⟨k + 1, by omega, by go_num, by first | with_reducible exact Drawn.step HD1.out _ | with_reducible exact Drawn.step (Drawn.step HD1.out _) _⟩
      case measure => simp [intOf]; omega
    · go_wp2
      go_ret
      exact ⟨rfl, HD.out⟩
theorem cell_of' {w : World} {b : Nat} {cs : Array Value} {t : TypeId} {m : Nat × Nat} (h : w.heap[b]? = some (.cells cs t m)) (i : Nat) : w.cell? ⟨b, i, none⟩ = cs[i]? := by simp [World.cell?, h]
theorem frozen_of' {w : World} {b i : Nat} {cs : Array Value} {t : TypeId} {m : Nat × Nat} (h : w.heap[b]? = some (.cells cs t m)) (hi : i < m.1) : w.frozen? ⟨b, i, none⟩ = false := by
  have : ¬ m.1 ≤ i := by omega
  simp [World.frozen?, h, this]
theorem run_len : ∀ (l : List In) (pc : Nat) (r : List UInt8), Run pc r l → l.length ≤ r.length
  | [], _, _, _ => Nat.zero_le _
  | x :: l, pc, r, h => by
    obtain ⟨_, h2, h3, _, h5⟩ := h
    have := run_len l _ _ h5
    simp only [List.length_drop] at this
    simp only [List.length_cons]
    omega
theorem NOwn.at_new {w : World} {base : Nat} {v : Value} {l : List In} (h : NOwn w base v l) (hl : 0 < l.length) : ∃ g cap, v = .slice (some ⟨g, 0, none⟩) l.length cap ∧ base ≤ g ∧ g < w.heap.size := by
  obtain ⟨ps, _, hr⟩ := h
  rcases hr.2 with ⟨_, h0⟩ | ⟨g, cap, cur, hv, hb, hgg, _⟩
  · omega
  · exact ⟨g, cap, hv, hb, lt_of_block hgg⟩
theorem NOwn.set_below {w : World} {base : Nat} {v : Value} {l : List In} (h : NOwn w base v l) {a : Addr} (ha : a.block < base) (u : Value) : NOwn (w.setCell a u) base v l := by
  obtain ⟨ps, hs, hr⟩ := h
  exact ⟨ps, hs.imp fun _ _ h => ownsRow_setCell_below h ha u, ownsRow_setCell_below hr ha u⟩
theorem Form_q (op : Int) {f : Int} (h : formP op = f) (w : World) : Calls Tryd.prog 15 #[.int .i64 op] w fun e w' => e = .returned (.int .u8 f) ∧ w' = w :=
  (Form_any op w).mono fun _ _ ⟨h1, h2⟩ => ⟨by rw [h1, h], h2.symm⟩
theorem ends_q (op : Int) {f : Bool} (h : endsP op = f) (w : World) : Calls Tryd.prog 17 #[.int .i64 op] w fun e w' => e = .returned (.bool f) ∧ w' = w :=
  (ends_any op w).mono fun _ _ ⟨h1, h2⟩ => ⟨by rw [h1, h], h2.symm⟩
theorem Form_r (op : Int) (w : World) : Calls Tryd.prog 15 #[.int .i64 op] w fun e w' => e = .returned (.int .u8 (formP op)) ∧ w' = w := Form_q op rfl w
theorem ends_r (op : Int) (w : World) : Calls Tryd.prog 17 #[.int .i64 op] w fun e w' => e = .returned (.bool (endsP op)) ∧ w' = w := ends_q op rfl w
/-- The bytes of a text, laid anew: all that is asked of them. -/
theorem bytes_full (t : ByteArray) (W : World) : ∃ C cap m, (convert 9 46 (.string t)).run Tryd.prog W = .ok (.slice (some ⟨W.heap.size, 0, none⟩) t.size cap) (W.drew.alloc (.cells C 5 m)) ∧
    (∀ j, j < t.size → C[j]? = some (.int .u8 (b1 (L t) j))) ∧ t.size ≤ m.1 := by
  refine ⟨_, _, _, run_bytes_of_string W 9 46 5 t Tryd.underlying9 Tryd.underlying46 Tryd.underlying5, fun j hj => ?_, ?_⟩
  · unfold bytesRow
    have h2 : j < t.data.size := hj
    rw [Array.getElem?_append_left (by simpa using h2)]
    rw [Array.getElem?_map, Array.getElem?_eq_getElem h2]
    simp only [Option.map_some, Option.some.injEq, Value.int.injEq, true_and]
    have := get_b1 t j hj
    rw [← this]
    rfl
  · unfold bytesRow
    simp only [Array.size_append, Array.size_map]
    exact Nat.le_add_right t.data.size _
/-- A byte of them turned, they are a text again. -/
theorem bytes_back (t : ByteArray) (W : World) (b q : Nat) (x : Nat) (C : Array Value) (m : Nat × Nat) (cap : Nat) (hb : W.heap[b]? = some (.cells (C.setIfInBounds q (.int .u8 (x : Int))) 5 m)) (hC : ∀ j, j < t.size → C[j]? = some (.int .u8 (b1 (L t) j))) (hx : x < 256) (hq : q < t.size) :
    (convert 46 9 (.slice (some ⟨b, 0, none⟩) t.size cap)).run Tryd.prog W = .ok (.string ⟨((L t).set q (UInt8.ofNat x)).toArray⟩) W := by
  have hl : ((L t).set q (UInt8.ofNat x)).length = t.size := by rw [List.length_set, ← size_L]
  have := run_convert_bytes_back (P := Tryd.prog) W 46 9 5 ⟨b, 0, none⟩ cap ((L t).set q (UInt8.ofNat x)) Tryd.underlying46 Tryd.underlying5 Tryd.underlying9 (fun j hj => by
    rw [hl] at hj
    rw [plain_add, Nat.zero_add]
    have hc : W.cell? ⟨b, j, none⟩ = (C.setIfInBounds q (.int .u8 (x : Int)))[j]? := by simp [World.cell?, hb]
    rw [hc, Array.getElem?_setIfInBounds]
    have hjl : j < (L t).length := by rw [← size_L]; exact hj
    by_cases e : q = j
    · subst e
      have hcs : q < C.size := (Array.getElem?_eq_some_iff.1 (hC q hj)).1
      rw [if_pos rfl, if_pos hcs, List.getElem_set_self]
      simp only [Option.some.injEq, Value.int.injEq, true_and]
      rw [UInt8.toNat_ofNat']
      omega
    · rw [if_neg e, hC j hj, List.getElem_set_ne e]
      simp only [Option.some.injEq, Value.int.injEq, true_and]
      have := get_b1 t j hj
      rw [← this]
      rfl)
  rw [hl] at this
  exact this
theorem flat_set : ∀ (l : List In) (ps : List (Value × Value)) (k : Nat) {x : In}, ps.length = l.length → l[k]? = some x → ∀ op : Int, ((l.set k { x with op := op }).zip ps).flatMap ncells = ((l.zip ps).flatMap ncells).set (k * 5 + 1) (.int .i64 op)
  | [], _, _, _, _, h, _ => by simp at h
  | _ :: _, [], _, _, h, _, _ => by simp at h
  | y :: l, p :: ps, 0, x, hl, h, op => by
    simp only [List.getElem?_cons_zero, Option.some.injEq] at h
    subst h
    rfl
  | y :: l, p :: ps, k + 1, x, hl, h, op => by
    simp only [List.getElem?_cons_succ] at h
    have ih := flat_set l ps k (by simpa using hl) h op
    show ncells (y, p) ++ ((l.set k { x with op := op }).zip ps).flatMap ncells = (ncells (y, p) ++ (l.zip ps).flatMap ncells).set ((k + 1) * 5 + 1) _
    rw [ih, List.set_append_right _ _ (by show 5 ≤ _; omega)]
    congr 2
    show _ = (k + 1) * 5 + 1 - 5
    omega
/-- An op that is stored into a row of one's own. -/
theorem NOwn.turned {w : World} {base : Nat} {g n cap k : Nat} {l : List In} {x : In} {op : Int} (h : NOwn w base (.slice (some ⟨g, 0, none⟩) n cap) l) (hk : l[k]? = some x) :
    NOwn (w.setCell ⟨g, k * 5 + 1, none⟩ (.int .i64 op)) base (.slice (some ⟨g, 0, none⟩) n cap) (l.set k { x with op := op }) ∧ w.frozen? ⟨g, k * 5 + 1, none⟩ = false := by
  obtain ⟨ps, hs, hr⟩ := h
  have hkl : k < l.length := (List.getElem?_eq_some_iff.1 hk).1
  obtain ⟨a', c', e⟩ := own_form hr
  injection e with e1 e2 e3
  subst e2
  have hst := (World.ownsRow.stored hr (k * 5 + 1) (.int .i64 op)).1
  obtain ⟨cs, hg⟩ : ∃ cs, w.heap[g]? = some (.cells cs 43 (0, 0)) := by
    rcases hr.2 with ⟨h', _⟩ | ⟨g', cap', cur, h', _, hgg, _⟩
    · simp at h'
    · simp only [Value.slice.injEq, Option.some.injEq, Addr.mk.injEq, and_true, true_and] at h'
      rw [h'.1]
      exact ⟨_, hgg⟩
  refine ⟨⟨ps, ⟨by rw [List.length_set]; exact hs.1, fun i y p hy hp => ?_⟩, ?_⟩, World.ownsRow.frozenAt hr _⟩
  · have sub : ∀ (v : Value) (li : List Int), IOwn w base v li → IOwn (w.setCell ⟨g, k * 5 + 1, none⟩ (.int .i64 op)) base v li := fun v li hv => ownsRow_setCell_other hv (own_ne hv hg (by decide)) _
    by_cases e : k = i
    · subst e
      rw [List.getElem?_set_self hkl] at hy
      cases hy
      have := hs.2 k x p hk hp
      exact ⟨sub _ _ this.1, sub _ _ this.2⟩
    · rw [List.getElem?_set_ne e] at hy
      have := hs.2 i y p hy hp
      exact ⟨sub _ _ this.1, sub _ _ this.2⟩
  · rw [List.length_set]
    have key : ((l.set k { x with op := op }).zip ps).flatMap ncells = ((l.zip ps).flatMap ncells).set (k * 5 + 1) (.int .i64 op) := by
      exact flat_set l ps k hs.1 hk op
    rw [key]
    exact hst
set_option maxRecDepth 1000000 in
set_option maxHeartbeats 12800000 in
theorem turns_walk (s : ByteArray) (at_ op : Int) (ha1 : -9223372036854775808 ≤ at_) (ha2 : at_ ≤ 9223372036854775807) (ho1 : -9223372036854775808 ≤ op) (ho2 : op ≤ 9223372036854775807) (w : World) (hN : Names w) :
    Calls Tryd.prog 9 #[.string s, .int .i64 at_, .int .i64 op] w fun e w' => e = .returned (.bool true) ∧ Below w.heap.size w w' := by
  have N0 := Lib.hid hN
  clear hN
  have HDS := fun W => Lib.hid (Decode_any s W)
  by_cases hs : decE (L s) = 0
  · have HS0 := Lib.hid hs
    obtain ⟨s1, s2, s3, s4, s5⟩ := decE_ok hs
    clear s4
    have hne := insP_ne s1 s3
    rw [← s5] at hne
    rw [← size_L] at s2
    rw [hs] at HDS
    have HBD0 := Lib.hid (dec_bd hs)
    have HRUN := Lib.hid (run_of _ _ _ (Nat.le_refl _) s3)
    rw [← s5] at HRUN
    obtain ⟨la, hla⟩ : ∃ l, decL (L s) = l := ⟨_, rfl⟩
    have HLA := Lib.hid hla
    rw [hla] at HDS hne HBD0 HRUN
    have hpos : 0 < la.length := List.length_pos_iff.2 hne
    clear hs s1 s3 s5 hne hla
    go_enter Tryd.func9, Tryd.ntmps9
    go_wp2_with fail
    refine (shown_any _ N0.out).mono ?_
    rintro e w1 ⟨rfl, hb⟩
    have B1 := Lib.hid hb
    clear hb
    go_wp2_with fail
    refine (HDS _).out.mono ?_
    rintro e w2 ⟨va, rfl, hoa, hb⟩
    have B2 := Lib.hid (Below.link B1.out hb)
    have b12 := hb.size
    have OA := Lib.hid hoa
    clear hb hoa
    obtain ⟨g, ca, rfl, hg1, hg2⟩ := OA.out.at_new hpos
    obtain ⟨_, _, _, hca, hma⟩ := OA.out.row.form
    have hl4 : la.length ≤ 1000000 := by have := run_len _ _ _ HRUN.out; rw [← size_L] at this; omega
    unfold maxLen at hma
    go_wp2_with fail
    refine (pick_any at_ la.length ha1 ha2 (by omega) (by omega) _).mono ?_
    rintro e w3 ⟨rk, rfl, hr0, hr1, rfl⟩
    obtain ⟨k, rfl⟩ : ∃ k : Nat, rk = k := ⟨rk.toNat, by omega⟩
    go_wp2_with fail
    refine (pick_any op 64 ho1 ho2 (by omega) (by omega) _).mono ?_
    rintro e w3 ⟨rx, rfl, hx0, hx1, rfl⟩
    obtain ⟨x, rfl⟩ : ∃ x : Nat, rx = x := ⟨rx.toNat, by omega⟩
    have hk : k < la.length := by omega
    have hx64 : x < 64 := by omega
    have hy := List.getElem?_eq_getElem hk
    generalize la[k] = y at hy
    obtain ⟨q, hq1, hq2, hrest⟩ := run_at _ _ _ HRUN.out k y hy
    clear hrest
    rw [← size_L] at hq2
    have hyp : y.pc = q := by omega
    have hrow := OA.out.row.at_ hy
    obtain ⟨ba, oa, Ak, ck, At, ct, eba, hbb, hk1, ht1, x0, x1, x2, x3, x4⟩ := hrow
    injection eba with eba
    injection eba with eb1 eb2
    subst eb1 eb2
    rw [hyp] at x0
    simp only [Nat.zero_add] at x0 x1 x2 x3 x4
    have HY := Lib.hid hy
    have HYP := Lib.hid hyp
    clear hy hyp hk1 ht1 hq1
    by_cases hf : formP (x : Int) = formP y.op
    · have e1 : (formP (x : Int) == formP y.op) = true := by simpa using hf
      have e2 : (formP (x : Int) != formP y.op) = false := by simpa using hf
      have H1 := Lib.hid hf
      clear hf
      by_cases hg : endsP (x : Int) = endsP y.op
      · have e3 : (endsP (x : Int) == endsP y.op) = true := by simpa using hg
        have e4 : (endsP (x : Int) != endsP y.op) = false := by simpa using hg
        have H2 := Lib.hid hg
        clear hg
        go_wp2
        go_quiet ((first | (go_at_call 15; exact Calls.quiet_of_same (Form_r _ _)) | (go_at_call 17; exact Calls.quiet_of_same (ends_r _ _))))
        have hwx : IntKind.u8.wrap (x : Int) = x := by rw [IntKind.wrap_u8]; omega
        obtain ⟨w3, hw3⟩ : ∃ w3, w3 = w2.drewN nq := ⟨_, rfl⟩
        have b23 : Below w2.heap.size w2 w3 := by rw [hw3]; exact below_drewN (Below.refl _ _) nq
        have B3 := Lib.hid (Below.link B2.out b23)
        have OA3 := Lib.hid (OA.out.below b23)
        have hz3 : w3.heap.size = w2.heap.size := by rw [hw3]; rfl
        have hg3 : g < w3.heap.size := by omega
        have y0 := (b23.cell (p := ⟨g, k * 5, none⟩) hg2).trans x0
        rw [← hw3]
        clear hw3 x0 x1 x2 x3 x4 hz3
        obtain ⟨C, cap, m, hrun, hC, hm⟩ := bytes_full s w3
        have hCq := hC q hq2
        have hcs : q < C.size := (Array.getElem?_eq_some_iff.1 hCq).1
        have hnew : (w3.alloc (.cells C 5 m)).heap[w3.heap.size]? = some (.cells C 5 m) := heap_new w3 _
        have hcq : (w3.alloc (.cells C 5 m)).cell? ⟨w3.heap.size, q, none⟩ = some (.int .u8 (b1 (L s) q)) := (cell_of' hnew q).trans hCq
        have hfq : (w3.alloc (.cells C 5 m)).frozen? ⟨w3.heap.size, q, none⟩ = false := frozen_of' hnew (by omega)
        have hV : (((w3.alloc (.cells C 5 m)).setCell ⟨w3.heap.size, q, none⟩ (.int .u8 (x : Int))).drew).heap[w3.heap.size]? = some (.cells (C.setIfInBounds q (.int .u8 (x : Int))) 5 m) := heap_set_eq hnew hcs
        have hVl := lt_of_block hV
        have hcv := bytes_back s _ w3.heap.size q x C m cap hV hC (by omega) hq2
        obtain ⟨t, ht⟩ : ∃ t : ByteArray, t = ⟨((L s).set q (UInt8.ofNat x)).toArray⟩ := ⟨_, rfl⟩
        have hLt : L t = (L s).set q (UInt8.ofNat x) := by rw [ht]
        rw [← ht] at hcv
        have hxb : (UInt8.ofNat x).toNat = x := by rw [UInt8.toNat_ofNat']; omega
        obtain ⟨d1, d2⟩ := dec_turn (s := L s) (k := k) (q := q) (x := y) (b := UInt8.ofNat x) HS0.out (by rw [HLA.out]; exact HY.out) HYP.out (by rw [hxb]; exact H1.out) (by rw [hxb]; exact H2.out)
        rw [hxb, HLA.out] at d2
        have HDT := fun W => Lib.hid (Decode_any t W)
        rw [hLt, d1, d2] at HDT
        have BV := Lib.hid ((((Below.refl w3.heap.size w3).alloc (Nat.le_refl _) (.cells C 5 m)).setCell (p := ⟨w3.heap.size, q, none⟩) (Nat.le_refl _) (.int .u8 (x : Int))).drew)
        obtain ⟨lb, hlb⟩ : ∃ l, la.set k { y with op := (x : Int) } = l := ⟨_, rfl⟩
        rw [hlb] at HDT
        have HLB := Lib.hid hlb
        clear hV hnew hCq hC hcs hm ht hLt hxb d1 d2 hlb HS0
        go_wp2_with fail
        refine (HDT _).out.mono ?_
        rintro e w5 ⟨vc, rfl, hoc, hb5⟩
        have BV5 := Lib.hid (BV.out.trans (hb5.mono (Nat.le_of_lt hVl)))
        have hV5 := hb5.size
        have hg5 : g < w5.heap.size := by omega
        have hw35 : w3.heap.size ≤ w5.heap.size := by omega
        have OA5 := Lib.hid (OA3.out.below BV5.out)
        have OT := Lib.hid (OA5.out.turned HY.out (op := (x : Int)))
        have OC := Lib.hid (hoc.set_below (a := ⟨g, k * 5 + 1, none⟩) (by simp only; omega) (.int .i64 (x : Int)))
        have B5 := Lib.hid (B3.out.trans (BV5.out.mono B3.out.size))
        obtain ⟨ac, cc, rfl⟩ := hoc.form
        have hrow5 := OA5.out.row.at_ HY.out
        obtain ⟨_, _, _, _, _, _, eba, _, _, _, _, y1, _⟩ := hrow5
        injection eba with eba
        injection eba with eb1 eb2
        subst eb1 eb2
        simp only [Nat.zero_add] at y1
        have hfr := OT.out.2
        have hwg : w.heap.size ≤ g := Nat.le_trans B1.out.size hg1
        clear hoc hb5 hVl hV5 hrun hcv hcq hfq
        go_wp2_with fail
        refine (same_eq _ lb _ _ _ (by have := OT.out.1.row; rw [HLB.out] at this; exact this) OC.out.row (Nat.le_refl _)).mono ?_
        rintro e w6 ⟨rfl, hd⟩
        have B6 := Lib.hid (hd.keep (B5.out.setCell (p := ⟨g, k * 5 + 1, none⟩) hwg (.int .i64 (x : Int))))
        clear hd
        go_wp2
        go_ret
        exact ⟨rfl, B6.out⟩
      · have e3 : (endsP (x : Int) == endsP y.op) = false := by simpa using hg
        have e4 : (endsP (x : Int) != endsP y.op) = true := by simpa using hg
        clear hg
        go_wp2
        go_quiet ((first | (go_at_call 15; exact Calls.quiet_of_same (Form_r _ _)) | (go_at_call 17; exact Calls.quiet_of_same (ends_r _ _))))
        go_wp2
        go_ret
        exact ⟨rfl, below_drewN B2.out _⟩
    · have e1 : (formP (x : Int) == formP y.op) = false := by simpa using hf
      have e2 : (formP (x : Int) != formP y.op) = true := by simpa using hf
      clear hf
      go_wp2
      go_quiet ((first | (go_at_call 15; exact Calls.quiet_of_same (Form_r _ _)) | (go_at_call 17; exact Calls.quiet_of_same (ends_r _ _))))
      go_wp2
      go_ret
      exact ⟨rfl, below_drewN B2.out _⟩
  · obtain ⟨f, hf⟩ : ∃ f, decE (L s) = f := ⟨_, rfl⟩
    rw [hf] at hs HDS
    have e1 : (f == 0) = false := by simpa using hs
    have e1' : (f != 0) = true := by simpa using hs
    clear hf hs
    go_enter Tryd.func9, Tryd.ntmps9
    go_wp2_with fail
    refine (shown_any _ N0.out).mono ?_
    rintro e w1 ⟨rfl, hb⟩
    have B1 := Lib.hid hb
    clear hb
    go_wp2_with fail
    refine (HDS _).out.mono ?_
    rintro e w2 ⟨va, rfl, hoa, hb⟩
    have B2 := Lib.hid (Below.link B1.out hb)
    have b12 := hb.size
    have OA := Lib.hid hoa
    clear hb hoa
    go_wp2
    go_ret
    exact ⟨rfl, B2.out⟩
end Go.Proofs.YtjdaaecbnhcoaaaDoor
