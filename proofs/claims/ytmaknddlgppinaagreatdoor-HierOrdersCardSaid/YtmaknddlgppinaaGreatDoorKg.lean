/-
  WALK of HierOrders.
-/
import Derived.Test.YtmaknddlgppinaaGreatDoorX30
import Derived.Test.YtmaknddlgppinaaGreatDoorX29
import Derived.Deep.QuietTactic
set_option linter.unusedVariables false
set_option linter.unusedSimpArgs false
namespace Go.Proofs.YtmaknddlgppinaaGreatDoor
open Go.RowKit

theorem neq31 (d d' : Int) (s s' : ByteArray) (w : World) : (binOp .neq 31 (.agg #[.int .i64 d, .string s]) (.agg #[.int .i64 d', .string s'])).run Tryz.prog w = .ok (.bool (!decide (d = d' ∧ s = s'))) w := by
  have h : (Op.equal 31 (.agg #[.int .i64 d, .string s]) (.agg #[.int .i64 d', .string s'])).run Tryz.prog w = .ok (decide (d = d' ∧ s = s')) w := eq31 d d' s s' w
  simp only [binOp]
  simp [h]
/-- What Lub answers. -/
structure LubIs (cs : List PC) (a b : TY) (d : Int) (s : ByteArray) (ok : Bool) : Prop where
  hok : ok = true ↔ LubOk cs a b
  heq : ok = true → (d, s.data.toList) = lubT cs a b
  hno : ok = false → d = 0 ∧ s = ⟨#[]⟩
  hsz : s.size ≤ 1000000
theorem LubOk.symm {cs : List PC} {a b : TY} (h : LubOk cs a b) : LubOk cs b a := ⟨h.2.1, h.1, h.2.2.2, h.2.2.1⟩
theorem pair_eq {d d' : Int} {s s' : ByteArray} {t : TY} (h : (d, s.data.toList) = t) (h' : (d', s'.data.toList) = t) : d = d' ∧ s = s' := by
  rw [← h'] at h
  injection h with h1 h2
  exact ⟨h1, bytes_eq h2⟩
theorem LubIs.comm {cs : List PC} (G : Good cs) {a b : TY} {d d' : Int} {s s' : ByteArray} {ok ok' : Bool} (h : LubIs cs a b d s ok) (h' : LubIs cs b a d' s' ok') : d = d' ∧ s = s' ∧ ok = ok' := by
  have e : ok = ok' := by
    rw [Bool.eq_iff_iff, h.hok, h'.hok]
    exact ⟨LubOk.symm, LubOk.symm⟩
  subst e
  cases ok with
  | false =>
    have h1 := h.hno rfl
    have h2 := h'.hno rfl
    exact ⟨h1.1.trans h2.1.symm, h1.2.trans h2.2.symm, rfl⟩
  | true =>
    have h1 := h.heq rfl
    have h2 := h'.heq rfl
    rw [← lubT_comm G (h.hok.1 rfl)] at h2
    have := pair_eq h1 h2
    exact ⟨this.1, this.2, rfl⟩
theorem LubIs.assoc {cs : List PC} (G : Good cs) {a b c x w : TY} {dx dw dv du : Int} {sx sw sv su : ByteArray} {three : Bool} (h : LubIs cs a b dx sx true) (h2 : LubIs cs b c dw sw true) (hx : x = (dx, sx.data.toList)) (hw : w = (dw, sw.data.toList)) (h3 : LubIs cs x c dv sv true) (h4 : LubIs cs a w du su three) : dv = du ∧ sv = su ∧ three = true := by
  have e1 : x = lubT cs a b := hx.trans (h.heq rfl)
  have e2 : w = lubT cs b c := hw.trans (h2.heq rfl)
  have k1 := h.hok.1 rfl
  have k2 := h2.hok.1 rfl
  have k3 := lubT_ok G k1 k2
  have t : three = true := h4.hok.2 (by rw [e2]; exact k3.2)
  subst t
  have q1 := h3.heq rfl
  have q2 := h4.heq rfl
  rw [e1, lubT_assoc G k1 k2] at q1
  rw [e2] at q2
  have := pair_eq q1 q2
  exact ⟨this.1, this.2, rfl⟩
theorem LubIs.above {cs : List PC} (G : Good cs) {a b : TY} {d : Int} {s : ByteArray} (h : LubIs cs a b d s true) : SubT cs a (d, s.data.toList) ∧ SubT cs b (d, s.data.toList) := by
  rw [h.heq rfl]
  exact sub_lub G (h.hok.1 rfl)
theorem LubIs.least {cs : List PC} (G : Good cs) {a b c : TY} {d : Int} {s : ByteArray} {k : Nat} (h : LubIs cs a b d s true) (ha : a.1 = 0) (hb : b.1 = 0) (hc : c.1 = 0) (hk : ix cs c.2 = some k) (hj : isJ cs k = false) (h1 : SubT cs a c) (h2 : SubT cs b c) : SubT cs (d, s.data.toList) c := by
  rw [h.heq rfl]
  obtain ⟨a1, a2⟩ := a
  obtain ⟨b1, b2⟩ := b
  obtain ⟨c1, c2⟩ := c
  simp only at ha hb hc
  subst ha; subst hb; subst hc
  have key : ∀ x : List UInt8, hasT cs (0, x) → (0, x) ≠ intT → ∃ i, ix cs x = some i := by
    intro x hx hn
    rcases hx.2.2 with e | e
    · exact absurd (by show ((0 : Int), x) = (0, []); rw [show x = [] from e]) hn
    · cases hi : ix cs x with
      | none => exact absurd hi e
      | some i => exact ⟨i, rfl⟩
  have hok := h.hok.1 rfl
  obtain ⟨i, hi⟩ := key _ hok.1 hok.2.2.1
  obtain ⟨j, hj2⟩ := key _ hok.2.1 hok.2.2.2
  exact lub_least G hi hj2 hk hj h1 h2
/-- The box of what Find answers. -/
def FndBox (cs : List PC) (nm : List UInt8) (y : Nat) (b : Bool) (w : World) : Prop := ∃ n5 n6 vi b3 b4 b5 i6, w.heap[y]? = some (.cells #[.string n5, .string n6, vi, .bool b3, .bool b4, .bool b5, .int .i64 i6] 47 (0, 0)) ∧ (b = true → ∃ k, ix cs nm = some k ∧ isJ cs k = b3)
theorem FndBox.no {cs : List PC} {nm : List UInt8} {y : Nat} {w : World} {n5 n6 : ByteArray} {vi : Value} {b3 b4 b5 : Bool} {i6 : Int} (h : w.heap[y]? = some (.cells #[.string n5, .string n6, vi, .bool b3, .bool b4, .bool b5, .int .i64 i6] 47 (0, 0))) : FndBox cs nm y false w := ⟨_, _, _, _, _, _, _, h, fun h => by cases h⟩
theorem FndBox.yes {cs : List PC} {nm : List UInt8} {y k : Nat} {c : PC} {w : World} {n5 n6 : ByteArray} {vi : Value} {b4 b5 : Bool} {i6 : Int} (h : w.heap[y]? = some (.cells #[.string n5, .string n6, vi, .bool c.iface, .bool b4, .bool b5, .int .i64 i6] 47 (0, 0))) (hk : ix cs nm = some k) (hc : cs[k]? = some c) : FndBox cs nm y true w :=
  ⟨_, _, _, _, _, _, _, h, fun _ => ⟨k, hk, by unfold isJ; rw [hc]⟩⟩
theorem sub_self {cs : List PC} (G : Good cs) {a : TY} : SubT cs a a ↔ hasT cs a := ⟨fun h => h.1, sub_eq G⟩
theorem types_dims {l : List Int} {k : Nat} {t : Int × ByteArray} (h : (typesR l)[k]? = some t) : 0 ≤ t.1 ∧ t.1 ≤ 4 := by
  unfold typesR at h
  rw [List.getElem?_map] at h
  cases hx : (l.take 12)[k]? with
  | none => rw [hx] at h; cases h
  | some c =>
    rw [hx] at h
    cases h
    have := pickN_lt c (n := 40) (by decide)
    show 0 ≤ ((pickN c 40 / 13 : Nat) : Int) ∧ ((pickN c 40 / 13 : Nat) : Int) ≤ 4
    omega
section
variable {B tb mb cap ow : Nat} {A : Option Addr} {cs : List PC} {cl sl : Nat → Nat} {S : Nat → List Nat} {w : World}
theorem lub_is_any {da db : Int} {sa sb : ByteArray} {w : World} (h : HT B tb mb A cap ow cs cl sl S w) (hsa : sa.size ≤ 1000000) (hsb : sb.size ≤ 1000000) :
    Calls Tryz.prog 21 #[.pointer (some ⟨tb, 0, none⟩), .agg #[.int .i64 da, .string sa], .agg #[.int .i64 db, .string sb]] w fun e w' => ∃ d s ok, e = .returned (.tuple #[.agg #[.int .i64 d, .string s], .bool ok]) ∧ LubIs cs (da, sa.data.toList) (db, sb.data.toList) d s ok ∧ Below w.heap.size w w' := by
  refine (Lub_any h hsa hsb).mono ?_
  rintro e w' ⟨d, s, ok, he, h1, h2, h3, h4, h5⟩
  exact ⟨d, s, ok, he, ⟨h1, h2, h3, h4⟩, h5⟩
set_option maxRecDepth 1000000 in
set_option maxHeartbeats 1600000 in
theorem classes_any {da db : Int} {sa sb : ByteArray} (h : HT B tb mb A cap ow cs cl sl S w) (hsa : sa.size ≤ 1000000) (hsb : sb.size ≤ 1000000) :
    Calls Tryz.prog 26 #[.pointer (some ⟨tb, 0, none⟩), .agg #[.int .i64 da, .string sa], .agg #[.int .i64 db, .string sb]] w fun e w' => (∃ r : Bool, e = .returned (.bool r)) ∧ Below w.heap.size w w' := by
  have T := Lib.hid (Two.start w da db sa sb)
  have H := Lib.hid h
  clear h
  have b0 := T.out.b1
  have a1 := T.out.a1
  go_enter Tryz.func26, Tryz.ntmps26
  go_wp2_with fail
  refine (Find_any (H.out.below (T.out.below.mono H.out.hB)) sa hsa).mono ?_
  rintro e w1 ⟨ha, b1⟩
  have B1 := Lib.hid (T.out.below.trans (b1.mono T.out.below.size))
  have b0' := (b1.cell (p := ⟨w.heap.size + 1, 1, none⟩) (by simp)).trans b0
  have hsz : w.heap.size + 1 < w1.heap.size := Nat.lt_of_lt_of_le (by simp) b1.size
  clear b0 a1 b1
  have key : ∃ n5 n6 vi b3 b4 b5 i6, ∃ r : Bool, e = .returned (.tuple #[.agg #[.string n5, .string n6, vi, .bool b3, .bool b4, .bool b5, .int .i64 i6], .bool r]) ∧ ∃ ai li ci, vi = .slice ai li ci := by
    rcases ha with ⟨_, rfl⟩ | ⟨i2, c2, k2, ifn2, _, _, _, hr, rfl⟩
    · exact ⟨_, _, _, _, _, _, _, _, rfl, _, _, _, rfl⟩
    · obtain ⟨ai2, ci2, e2, _, _⟩ := hr.length
      exact ⟨_, _, _, _, _, _, _, _, rfl, _, _, _, e2⟩
  clear ha
  obtain ⟨n5, n6, vi, b3, b4, b5, i6, r, rfl, ai, li, ci, rfl⟩ := key
  go_wp2_with fail
  refine (Find_any (H.out.below ((B1.out.alloc B1.out.size _).mono H.out.hB)) sb hsb).mono ?_
  rintro e w2 ⟨ha, b2⟩
  have key : ∃ n5 n6 vi b3 b4 b5 i6, ∃ r : Bool, e = .returned (.tuple #[.agg #[.string n5, .string n6, vi, .bool b3, .bool b4, .bool b5, .int .i64 i6], .bool r]) ∧ ∃ ai li ci, vi = .slice ai li ci := by
    rcases ha with ⟨_, rfl⟩ | ⟨i2, c2, k2, ifn2, _, _, _, hr, rfl⟩
    · exact ⟨_, _, _, _, _, _, _, _, rfl, _, _, _, rfl⟩
    · obtain ⟨ai2, ci2, e2, _, _⟩ := hr.length
      exact ⟨_, _, _, _, _, _, _, _, rfl, _, _, _, e2⟩
  clear ha
  obtain ⟨m5, m6, vj, c3, c4, c5, j6, r2, rfl, aj, lj, cj, rfl⟩ := key
  have hbx : w2.heap[w1.heap.size]? = some (.cells #[.string n5, .string n6, .slice ai li ci, .bool b3, .bool b4, .bool b5, .int .i64 i6] 47 (0, 0)) := (b2.block _ (by simp)).trans (hheap_new _ _)
  have hbl := lt_of_block hbx
  have c3x : w2.cell? ⟨w1.heap.size, 3, none⟩ = some (.bool b3) := kcells_of hbx 3
  have B2 := Lib.hid ((B1.out.alloc B1.out.size (.cells #[.string n5, .string n6, .slice ai li ci, .bool b3, .bool b4, .bool b5, .int .i64 i6] 47)).trans (b2.mono (B1.out.alloc B1.out.size _).size))
  clear hbx b2 b0'
  cases b3 with
  | false =>
    go_wp2
    go_ret
    exact ⟨⟨_, rfl⟩, B2.out.alloc B2.out.size _⟩
  | true =>
    go_wp2
    go_ret
    exact ⟨⟨_, rfl⟩, B2.out.alloc B2.out.size _⟩
end
set_option maxRecDepth 1000000 in
set_option maxHeartbeats 100000000 in
theorem orders_any {w : World} (hN : Blt w) {B0 : Nat} (rs : List Rw) (l : List Int) (v v3 : Value) (hr : RawsRow B0 w v rs) (hi : IRow B0 w v3 l) (hl : ∀ z ∈ l, B64 z) (hB : B0 ≤ w.heap.size) :
    Calls Tryz.prog 5 #[v, v3] w fun e w' => e = .returned (.bool true) ∧ Below w.heap.size w w' := by
  have HN := Lib.hid hN
  have HR := Lib.hid hr
  have HI := Lib.hid hi
  have HL := Lib.hid hl
  clear hN hr hi hl
  go_enter Tryz.func5, Tryz.ntmps5
  go_wp2_with fail
  refine (shown_any HN.out).mono ?_
  rintro e w1 ⟨rfl, b1⟩
  have N1 := Lib.hid (HN.out.below b1)
  have R1 := Lib.hid (HR.out.keep (fun p hp => b1.cell (Nat.lt_of_lt_of_le hp hB)))
  have hB1 : B0 ≤ w1.heap.size := Nat.le_trans hB b1.size
  have B1 := Lib.hid b1
  clear b1 HN HR
  go_wp2_with fail
  refine (files_any rs v w1 R1.out hB1).mono ?_
  rintro e w2 ⟨vf, rfl, own, b2⟩
  have F2 := Lib.hid own.row
  have N2 := Lib.hid (N1.out.below b2)
  have hB2 : B0 ≤ w2.heap.size := Nat.le_trans hB1 b2.size
  have B2 := Lib.hid (B1.out.trans (b2.mono B1.out.size))
  clear own b2 N1 R1 B1
  go_wp2_with fail
  refine (New_any N2.out (filesR rs) vf F2.out (Nat.le_refl _) (filesR_texts rs)).mono ?_
  rintro e w3 ⟨ha, b3⟩
  have hB3 : B0 ≤ w3.heap.size := Nat.le_trans hB2 b3.size
  have B3 := Lib.hid (B2.out.trans (b3.mono B2.out.size))
  clear b3 N2 F2 B2
  rcases ha with ⟨x, a, ho, rfl⟩ | ⟨ds, nb, mb, A, cap, cl, sl, S, ho, rfl, ht⟩
  · have hx := open_err ho
    have hx1 : (((x : Nat) : Int) == 0) = false := by simp; omega
    have hx2 : (((x : Nat) : Int) != 0) = true := by simp; omega
    clear ho hx
    go_wp2
    go_ret
    exact ⟨rfl, B3.out⟩
  have hop := open_raw good_built ho
  have HG := Lib.hid hop.1
  clear hop ho
  have HT := Lib.hid ht
  clear ht
  go_wp2_with fail
  refine (types_any l v3 w3 (HI.out.keep (fun p hp => B3.out.cell (Nat.lt_of_lt_of_le hp hB))) hB3 (fun c hc => HL.out c hc)).mono ?_
  rintro e U ⟨vt, rfl, own, b21⟩
  have TR := Lib.hid (types_row own)
  obtain ⟨a8, c8, e8, _, hmax8⟩ := (types_row own).length
  subst e8
  obtain ⟨q, hq⟩ : ∃ q, (typesR l).length = q := ⟨_, rfl⟩
  have hq12 : q ≤ 12 := by rw [← hq]; simp [typesR]; omega
  rw [hq] at TR ⊢
  have HQ := Lib.hid hq
  have HT2 := Lib.hid (HT.out.below (b21.mono HT.out.hB))
  have BW := Lib.hid (B3.out.trans (b21.mono B3.out.size))
  clear own b21 hq hmax8 hB3 B3 HT HI HL
  go_wp2
  go_loopg [10] q (fun g iv wx => ∃ i : Nat, iv = .int .i64 i ∧ i + g = q ∧ Below U.heap.size U wx)
  case atStart => exact ⟨0, rfl, by omega, Below.refl _ _⟩
  case round => as_aux_lemma =>
    obtain ⟨i, rfl, hig, hb⟩ := hrel
    have X := Lib.hid hb
    clear hb
    obtain ⟨V0, hV0⟩ : ∃ x, x = wr := ⟨_, rfl⟩
    subst hV0
    obtain ⟨g1, hg1⟩ : ∃ g, g = gk := ⟨_, rfl⟩
    subst hg1
    by_cases hiq : i < q
    · obtain ⟨⟨d1, s1⟩, ht1⟩ : ∃ t, (typesR l)[i]? = some t := ⟨_, List.getElem?_eq_getElem (by rw [HQ.out]; exact hiq)⟩
      obtain ⟨bt, ot, rfl, hbt, ca0, ca1⟩ := TR.out.at_ ht1
      have hz1 := types_small ht1
      have hd1 := types_dims ht1
      simp only at hz1 ca0 ca1 hd1
      have CA := Lib.hid (And.intro ca0 ca1)
      have HD1 := Lib.hid hd1
      have hg2 : g1 - 1 < g1 := by omega
      clear ht1 ca0 ca1 hd1
      go_upto_region 11 with fail
      go_cut [11] (fun va wx => ∃ y, va = .pointer (some ⟨y, 0, none⟩) ∧ Below V0.heap.size V0 wx ∧ wx.heap[y]? = some (.cells #[.int .i64 d1, .string s1] 31 (0, 0)))
      case first => as_aux_lemma =>
        have e1 := (X.out.cell (p := ⟨bt, ot + i * 2, none⟩) hbt).trans CA.out.1
        have e2 := (X.out.cell (p := ⟨bt, ot + i * 2 + 1, none⟩) hbt).trans CA.out.2
        have hbtw : bt < V0.heap.size := Nat.lt_of_lt_of_le hbt X.out.size
        go_wp2_with fail
        go_meet
        case rel => exact ⟨_, rfl, (Below.refl _ _).alloc (Nat.le_refl _) _, hheap_new _ _⟩
      obtain ⟨y1, rfl, hb, hy1⟩ := hcut
      obtain ⟨V1x, hV⟩ : ∃ x, x = wc := ⟨_, rfl⟩
      subst hV
      replace X := Lib.hid (X.out.trans (hb.mono X.out.size))
      have H1 := Lib.hid hy1
      clear hb
      clear hy1
      go_upto_region 12 with fail
      go_cut [12, 13] (fun va vb wx => ∃ y, ∃ b : Bool, va = .pointer (some ⟨y, 0, none⟩) ∧ vb = .bool b ∧ (b = true ↔ ix ds s1.data.toList ≠ none) ∧ Below V1x.heap.size V1x wx)
      case first => as_aux_lemma =>
        have n10 : V1x.cell? ⟨y1, 0, none⟩ = some (.int .i64 d1) := kcells_of H1.out 0
        have n11 : V1x.cell? ⟨y1, 1, none⟩ = some (.string s1) := kcells_of H1.out 1
        have hl1 := lt_of_block H1.out
        go_wp2_with fail
        refine (Find_any (HT2.out.below (X.out.mono HT2.out.hB)) s1 hz1).mono ?_
        rintro e x1 ⟨ha, b1⟩
        have B1 := Lib.hid b1
        rcases ha with ⟨h0, rfl⟩ | ⟨i2, c2, k2, ifn2, hi2, hc2, hnm2, hifr2, rfl⟩
        · have H0 := Lib.hid h0
          unfold zeroCls
          clear h0 b1
          go_wp2
          go_meet
          case rel => exact ⟨_, false, rfl, rfl, by simp [H0.out], B1.out.alloc B1.out.size _⟩
        · have H0 := Lib.hid hi2
          have H1 := Lib.hid hc2
          obtain ⟨ai2, ci2, rfl, _, _⟩ := hifr2.length
          clear hnm2 hifr2 b1 hi2 hc2
          go_wp2
          go_meet
          case rel => exact ⟨_, true, rfl, rfl, by simp [H0.out], B1.out.alloc B1.out.size _⟩
      obtain ⟨yk1, bk1, rfl, rfl, hbb, hb⟩ := hcut
      have Fk1 := Lib.hid hbb
      clear hbb
      obtain ⟨V2x, hV⟩ : ∃ x, x = wc := ⟨_, rfl⟩
      subst hV
      replace X := Lib.hid (X.out.trans (hb.mono X.out.size))
      replace H1 := Lib.hid ((hb.block _ (lt_of_block H1.out)).trans H1.out)
      clear hb
      go_upto_region 13 with fail
      go_cut [76] (fun v wx => v = .bool false ∧ Below V2x.heap.size V2x wx)
      case first => as_aux_lemma =>
        have n10 : V2x.cell? ⟨y1, 0, none⟩ = some (.int .i64 d1) := kcells_of H1.out 0
        have n11 : V2x.cell? ⟨y1, 1, none⟩ = some (.string s1) := kcells_of H1.out 1
        have hl1 := lt_of_block H1.out
        by_cases hs1 : s1 = ⟨#[]⟩
        · have e0 : (s1.toList == []) = true := by rw [hs1, Lib.toList_data]; rfl
          have HH := Lib.hid (show hasT ds (d1, s1.data.toList) from ⟨HD1.out.1, HD1.out.2, .inl (by rw [hs1])⟩)
          clear hs1
          have T0 := (Below.refl V2x.heap.size V2x).drew
          refine wp_region_held_drew (S := fun V => Below V2x.heap.size V2x V) (by kernel_rfl) T0 (fun hS0 => ?_)
          refine wpAnyH_take (i := 0) (oi := ({ dst := some 66, op := Op.move (Operand.tmp 6), type := 32, pos := "law.go:226", after := #[], guard := none } : Oper)) (v := ?av1) rfl (by kernel_rfl) (by kernel_rfl) (by kernel_rfl) (fun _ _ _ h => h) (Or.inl ⟨by rfl, ?ay1⟩) T0 ?_
          case ay1 => (intro V hSw; go_simp; try with_reducible rfl)
          try simp only [Act.put, List.setIfInBounds_toArray, List.set_cons_zero, List.set_cons_succ]
          refine wpAnyH_take (i := 1) (oi := ({ dst := some 67, op := Op.load 31 (Operand.tmp 11), type := 31, pos := "law.go:226", after := #[], guard := none } : Oper)) (v := ?av2) rfl (by kernel_rfl) (by kernel_rfl) (by kernel_rfl) (fun _ _ _ h => h) (Or.inl ⟨by rfl, ?ay2⟩) T0 ?_
          case ay2 => (intro V hSw; have e1 := (hSw.cell (p := ⟨y1, 0, none⟩) hl1).trans n10; have e2 := (hSw.cell (p := ⟨y1, 1, none⟩) hl1).trans n11; go_simp; try with_reducible rfl)
          try simp only [Act.put, List.setIfInBounds_toArray, List.set_cons_zero, List.set_cons_succ]
          refine wpAnyH_take (i := 2) (oi := ({ dst := some 68, op := Op.load 31 (Operand.tmp 11), type := 31, pos := "law.go:226", after := #[], guard := none } : Oper)) (v := ?av3) rfl (by kernel_rfl) (by kernel_rfl) (by kernel_rfl) (fun _ _ _ h => h) (Or.inl ⟨by rfl, ?ay3⟩) T0 ?_
          case ay3 => (intro V hSw; have e1 := (hSw.cell (p := ⟨y1, 0, none⟩) hl1).trans n10; have e2 := (hSw.cell (p := ⟨y1, 1, none⟩) hl1).trans n11; go_simp; try with_reducible rfl)
          try simp only [Act.put, List.setIfInBounds_toArray, List.set_cons_zero, List.set_cons_succ]
          refine wpAnyH_take (i := 4) (oi := ({ dst := some 70, op := Op.fieldAddr 31 (Operand.tmp 11) 1, type := 0, pos := "law.go:226", after := #[], guard := none } : Oper)) (v := ?av4) rfl (by kernel_rfl) (by kernel_rfl) (by kernel_rfl) (fun _ _ _ h => h) (Or.inl ⟨by rfl, ?ay4⟩) T0 ?_
          case ay4 => (intro V hSw; go_simp; try with_reducible rfl)
          try simp only [Act.put, List.setIfInBounds_toArray, List.set_cons_zero, List.set_cons_succ]
          refine wpAnyH_take (i := 5) (oi := ({ dst := some 71, op := Op.load 9 (Operand.tmp 70), type := 9, pos := "law.go:226", after := #[{ on := 4, ground := Ground.data }], guard := none } : Oper)) (v := ?av5) rfl (by kernel_rfl) (by kernel_rfl) (by kernel_rfl) (fun _ _ _ h => h) (Or.inl ⟨by rfl, ?ay5⟩) T0 ?_
          case ay5 => (intro V hSw; have e1 := (hSw.cell (p := ⟨y1, 0, none⟩) hl1).trans n10; have e2 := (hSw.cell (p := ⟨y1, 1, none⟩) hl1).trans n11; go_simp; try with_reducible rfl)
          try simp only [Act.put, List.setIfInBounds_toArray, List.set_cons_zero, List.set_cons_succ]
          refine wpAnyH_take (i := 6) (oi := ({ dst := some 72, op := Op.binOp BinOp.eql 9 (Operand.tmp 71) (Operand.const (Value.string { data := #[] })) 9, type := 4, pos := "law.go:226", after := #[{ on := 5, ground := Ground.data }], guard := none } : Oper)) (v := ?av6) rfl (by kernel_rfl) (by kernel_rfl) (by kernel_rfl) (fun _ _ _ h => h) (Or.inl ⟨by rfl, ?ay6⟩) T0 ?_
          case ay6 => (intro V hSw; go_simp; try with_reducible rfl)
          try simp only [Act.put, List.setIfInBounds_toArray, List.set_cons_zero, List.set_cons_succ]
          refine wpAnyH_ready (rs := [3]) (by kernel_rfl) (by simp) ?_
          refine (AllReadyH.cons (o := _) rfl (fun K hK => ?_) AllReadyH.nil)
          go_simp
          go_at_call 23
          refine (Sub_any (HT2.out.below ((X.out.trans (T0.mono X.out.size)).mono HT2.out.hB)) (by exact hz1) (by exact hz1)).mono ?_
          rintro e W7 ⟨r1, rfl, hr1, hb7⟩
          obtain rfl : r1 = true := hr1.2 ((sub_self HG.out).2 HH.out)
          have T7 := T0.trans (hb7.mono T0.size)
          clear hr1
          try go_wp2_with fail
          refine hK.out _ _ T7 (fun hS7 => ?_)
          clear hK K
          try simp only [Act.put, List.setIfInBounds_toArray, List.set_cons_zero, List.set_cons_succ]
          refine wpAnyH_take (i := 7) (oi := ({ dst := some 73, op := Op.move (Operand.tmp 72), type := 4, pos := "law.go:226", after := #[{ on := 6, ground := Ground.data }, { on := 3, ground := Ground.chain }], guard := none } : Oper)) (v := ?av8) rfl (by kernel_rfl) (by kernel_rfl) (by kernel_rfl) (fun _ _ _ h => h) (Or.inl ⟨by rfl, ?ay8⟩) T7 ?_
          case ay8 => (intro V hSw; go_simp; try with_reducible rfl)
          try simp only [Act.put, List.setIfInBounds_toArray, List.set_cons_zero, List.set_cons_succ]
          refine wpAnyH_take (i := 8) (oi := ({ dst := some 74, op := Op.move (Operand.tmp 13), type := 4, pos := "law.go:226", after := #[{ on := 7, ground := Ground.guard }], guard := some (7, false) } : Oper)) (v := undef) rfl (by kernel_rfl) (by kernel_rfl) (by kernel_rfl) (fun _ _ _ h => h) (Or.inr ⟨by rfl, rfl⟩) T7 ?_
          try simp only [Act.put, List.setIfInBounds_toArray, List.set_cons_zero, List.set_cons_succ]
          refine wpAnyH_take (i := 9) (oi := ({ dst := some 75, op := Op.pick (Operand.tmp 73) (Operand.const (Value.bool true)) (Operand.tmp 74), type := 4, pos := "law.go:226", after := #[{ on := 7, ground := Ground.data }, { on := 8, ground := Ground.data }], guard := none } : Oper)) (v := ?av9) rfl (by kernel_rfl) (by kernel_rfl) (by kernel_rfl) (fun _ _ _ h => h) (Or.inl ⟨by rfl, ?ay9⟩) T7 ?_
          case ay9 => (intro V hSw; go_simp; try with_reducible rfl)
          try simp only [Act.put, List.setIfInBounds_toArray, List.set_cons_zero, List.set_cons_succ]
          refine wpAnyH_take (i := 10) (oi := ({ dst := some 76, op := Op.binOp BinOp.neq 4 (Operand.tmp 69) (Operand.tmp 75) 4, type := 4, pos := "law.go:226", after := #[{ on := 3, ground := Ground.data }, { on := 9, ground := Ground.data }], guard := none } : Oper)) (v := ?av10) rfl (by kernel_rfl) (by kernel_rfl) (by kernel_rfl) (fun _ _ _ h => h) (Or.inl ⟨by rfl, ?ay10⟩) T7 ?_
          case ay10 => (intro V hSw; go_simp; try with_reducible rfl)
          try simp only [Act.put, List.setIfInBounds_toArray, List.set_cons_zero, List.set_cons_succ]
          refine wpAnyH_done (by kernel_rfl) ?_ _
          try go_wp2
          go_meet
          case rel => exact ⟨rfl, T7⟩
        · have e0 : (s1.toList == []) = false := by
            rw [beq_eq_false_iff_ne]
            intro h
            rw [Lib.toList_data] at h
            exact hs1 (bytes_eq h)
          have HH := Lib.hid hs1
          clear hs1
          cases bk1 with
          | false =>
            have HN2 := Lib.hid (show ¬ hasT ds (d1, s1.data.toList) from fun h => by
              rcases h.2.2 with e | e
              · exact HH.out (bytes_eq (by show s1.data.toList = []; exact e))
              · have := Fk1.out.2 e
                first | cases this | exact this.elim | simp at this)
            have T0 := (Below.refl V2x.heap.size V2x).drew
            refine wp_region_held_drew (S := fun V => Below V2x.heap.size V2x V) (by kernel_rfl) T0 (fun hS0 => ?_)
            refine wpAnyH_take (i := 0) (oi := ({ dst := some 66, op := Op.move (Operand.tmp 6), type := 32, pos := "law.go:226", after := #[], guard := none } : Oper)) (v := ?av11) rfl (by kernel_rfl) (by kernel_rfl) (by kernel_rfl) (fun _ _ _ h => h) (Or.inl ⟨by rfl, ?ay11⟩) T0 ?_
            case ay11 => (intro V hSw; go_simp; try with_reducible rfl)
            try simp only [Act.put, List.setIfInBounds_toArray, List.set_cons_zero, List.set_cons_succ]
            refine wpAnyH_take (i := 1) (oi := ({ dst := some 67, op := Op.load 31 (Operand.tmp 11), type := 31, pos := "law.go:226", after := #[], guard := none } : Oper)) (v := ?av12) rfl (by kernel_rfl) (by kernel_rfl) (by kernel_rfl) (fun _ _ _ h => h) (Or.inl ⟨by rfl, ?ay12⟩) T0 ?_
            case ay12 => (intro V hSw; have e1 := (hSw.cell (p := ⟨y1, 0, none⟩) hl1).trans n10; have e2 := (hSw.cell (p := ⟨y1, 1, none⟩) hl1).trans n11; go_simp; try with_reducible rfl)
            try simp only [Act.put, List.setIfInBounds_toArray, List.set_cons_zero, List.set_cons_succ]
            refine wpAnyH_take (i := 2) (oi := ({ dst := some 68, op := Op.load 31 (Operand.tmp 11), type := 31, pos := "law.go:226", after := #[], guard := none } : Oper)) (v := ?av13) rfl (by kernel_rfl) (by kernel_rfl) (by kernel_rfl) (fun _ _ _ h => h) (Or.inl ⟨by rfl, ?ay13⟩) T0 ?_
            case ay13 => (intro V hSw; have e1 := (hSw.cell (p := ⟨y1, 0, none⟩) hl1).trans n10; have e2 := (hSw.cell (p := ⟨y1, 1, none⟩) hl1).trans n11; go_simp; try with_reducible rfl)
            try simp only [Act.put, List.setIfInBounds_toArray, List.set_cons_zero, List.set_cons_succ]
            refine wpAnyH_take (i := 4) (oi := ({ dst := some 70, op := Op.fieldAddr 31 (Operand.tmp 11) 1, type := 0, pos := "law.go:226", after := #[], guard := none } : Oper)) (v := ?av14) rfl (by kernel_rfl) (by kernel_rfl) (by kernel_rfl) (fun _ _ _ h => h) (Or.inl ⟨by rfl, ?ay14⟩) T0 ?_
            case ay14 => (intro V hSw; go_simp; try with_reducible rfl)
            try simp only [Act.put, List.setIfInBounds_toArray, List.set_cons_zero, List.set_cons_succ]
            refine wpAnyH_take (i := 5) (oi := ({ dst := some 71, op := Op.load 9 (Operand.tmp 70), type := 9, pos := "law.go:226", after := #[{ on := 4, ground := Ground.data }], guard := none } : Oper)) (v := ?av15) rfl (by kernel_rfl) (by kernel_rfl) (by kernel_rfl) (fun _ _ _ h => h) (Or.inl ⟨by rfl, ?ay15⟩) T0 ?_
            case ay15 => (intro V hSw; have e1 := (hSw.cell (p := ⟨y1, 0, none⟩) hl1).trans n10; have e2 := (hSw.cell (p := ⟨y1, 1, none⟩) hl1).trans n11; go_simp; try with_reducible rfl)
            try simp only [Act.put, List.setIfInBounds_toArray, List.set_cons_zero, List.set_cons_succ]
            refine wpAnyH_take (i := 6) (oi := ({ dst := some 72, op := Op.binOp BinOp.eql 9 (Operand.tmp 71) (Operand.const (Value.string { data := #[] })) 9, type := 4, pos := "law.go:226", after := #[{ on := 5, ground := Ground.data }], guard := none } : Oper)) (v := ?av16) rfl (by kernel_rfl) (by kernel_rfl) (by kernel_rfl) (fun _ _ _ h => h) (Or.inl ⟨by rfl, ?ay16⟩) T0 ?_
            case ay16 => (intro V hSw; go_simp; try with_reducible rfl)
            try simp only [Act.put, List.setIfInBounds_toArray, List.set_cons_zero, List.set_cons_succ]
            refine wpAnyH_ready (rs := [3]) (by kernel_rfl) (by simp) ?_
            refine (AllReadyH.cons (o := _) rfl (fun K hK => ?_) AllReadyH.nil)
            go_simp
            go_at_call 23
            refine (Sub_any (HT2.out.below ((X.out.trans (T0.mono X.out.size)).mono HT2.out.hB)) (by exact hz1) (by exact hz1)).mono ?_
            rintro e W17 ⟨r1, rfl, hr1, hb17⟩
            obtain rfl : r1 = false := Bool.eq_false_iff.2 fun h => HN2.out ((sub_self HG.out).1 (hr1.1 h))
            have T17 := T0.trans (hb17.mono T0.size)
            clear hr1
            try go_wp2_with fail
            refine hK.out _ _ T17 (fun hS17 => ?_)
            clear hK K
            try simp only [Act.put, List.setIfInBounds_toArray, List.set_cons_zero, List.set_cons_succ]
            refine wpAnyH_take (i := 7) (oi := ({ dst := some 73, op := Op.move (Operand.tmp 72), type := 4, pos := "law.go:226", after := #[{ on := 6, ground := Ground.data }, { on := 3, ground := Ground.chain }], guard := none } : Oper)) (v := ?av18) rfl (by kernel_rfl) (by kernel_rfl) (by kernel_rfl) (fun _ _ _ h => h) (Or.inl ⟨by rfl, ?ay18⟩) T17 ?_
            case ay18 => (intro V hSw; go_simp; try with_reducible rfl)
            try simp only [Act.put, List.setIfInBounds_toArray, List.set_cons_zero, List.set_cons_succ]
            refine wpAnyH_take (i := 8) (oi := ({ dst := some 74, op := Op.move (Operand.tmp 13), type := 4, pos := "law.go:226", after := #[{ on := 7, ground := Ground.guard }], guard := some (7, false) } : Oper)) (v := ?av19) rfl (by kernel_rfl) (by kernel_rfl) (by kernel_rfl) (fun _ _ _ h => h) (Or.inl ⟨by rfl, ?ay19⟩) T17 ?_
            case ay19 => (intro V hSw; go_simp; try with_reducible rfl)
            try simp only [Act.put, List.setIfInBounds_toArray, List.set_cons_zero, List.set_cons_succ]
            refine wpAnyH_take (i := 9) (oi := ({ dst := some 75, op := Op.pick (Operand.tmp 73) (Operand.const (Value.bool true)) (Operand.tmp 74), type := 4, pos := "law.go:226", after := #[{ on := 7, ground := Ground.data }, { on := 8, ground := Ground.data }], guard := none } : Oper)) (v := ?av20) rfl (by kernel_rfl) (by kernel_rfl) (by kernel_rfl) (fun _ _ _ h => h) (Or.inl ⟨by rfl, ?ay20⟩) T17 ?_
            case ay20 => (intro V hSw; go_simp; try with_reducible rfl)
            try simp only [Act.put, List.setIfInBounds_toArray, List.set_cons_zero, List.set_cons_succ]
            refine wpAnyH_take (i := 10) (oi := ({ dst := some 76, op := Op.binOp BinOp.neq 4 (Operand.tmp 69) (Operand.tmp 75) 4, type := 4, pos := "law.go:226", after := #[{ on := 3, ground := Ground.data }, { on := 9, ground := Ground.data }], guard := none } : Oper)) (v := ?av21) rfl (by kernel_rfl) (by kernel_rfl) (by kernel_rfl) (fun _ _ _ h => h) (Or.inl ⟨by rfl, ?ay21⟩) T17 ?_
            case ay21 => (intro V hSw; go_simp; try with_reducible rfl)
            try simp only [Act.put, List.setIfInBounds_toArray, List.set_cons_zero, List.set_cons_succ]
            refine wpAnyH_done (by kernel_rfl) ?_ _
            try go_wp2
            go_meet
            case rel => exact ⟨rfl, T17⟩
          | true =>
            have HN2 := Lib.hid (show hasT ds (d1, s1.data.toList) from ⟨HD1.out.1, HD1.out.2, .inr (Fk1.out.1 (by first | rfl | trivial))⟩)
            have T0 := (Below.refl V2x.heap.size V2x).drew
            refine wp_region_held_drew (S := fun V => Below V2x.heap.size V2x V) (by kernel_rfl) T0 (fun hS0 => ?_)
            refine wpAnyH_take (i := 0) (oi := ({ dst := some 66, op := Op.move (Operand.tmp 6), type := 32, pos := "law.go:226", after := #[], guard := none } : Oper)) (v := ?av22) rfl (by kernel_rfl) (by kernel_rfl) (by kernel_rfl) (fun _ _ _ h => h) (Or.inl ⟨by rfl, ?ay22⟩) T0 ?_
            case ay22 => (intro V hSw; go_simp; try with_reducible rfl)
            try simp only [Act.put, List.setIfInBounds_toArray, List.set_cons_zero, List.set_cons_succ]
            refine wpAnyH_take (i := 1) (oi := ({ dst := some 67, op := Op.load 31 (Operand.tmp 11), type := 31, pos := "law.go:226", after := #[], guard := none } : Oper)) (v := ?av23) rfl (by kernel_rfl) (by kernel_rfl) (by kernel_rfl) (fun _ _ _ h => h) (Or.inl ⟨by rfl, ?ay23⟩) T0 ?_
            case ay23 => (intro V hSw; have e1 := (hSw.cell (p := ⟨y1, 0, none⟩) hl1).trans n10; have e2 := (hSw.cell (p := ⟨y1, 1, none⟩) hl1).trans n11; go_simp; try with_reducible rfl)
            try simp only [Act.put, List.setIfInBounds_toArray, List.set_cons_zero, List.set_cons_succ]
            refine wpAnyH_take (i := 2) (oi := ({ dst := some 68, op := Op.load 31 (Operand.tmp 11), type := 31, pos := "law.go:226", after := #[], guard := none } : Oper)) (v := ?av24) rfl (by kernel_rfl) (by kernel_rfl) (by kernel_rfl) (fun _ _ _ h => h) (Or.inl ⟨by rfl, ?ay24⟩) T0 ?_
            case ay24 => (intro V hSw; have e1 := (hSw.cell (p := ⟨y1, 0, none⟩) hl1).trans n10; have e2 := (hSw.cell (p := ⟨y1, 1, none⟩) hl1).trans n11; go_simp; try with_reducible rfl)
            try simp only [Act.put, List.setIfInBounds_toArray, List.set_cons_zero, List.set_cons_succ]
            refine wpAnyH_take (i := 4) (oi := ({ dst := some 70, op := Op.fieldAddr 31 (Operand.tmp 11) 1, type := 0, pos := "law.go:226", after := #[], guard := none } : Oper)) (v := ?av25) rfl (by kernel_rfl) (by kernel_rfl) (by kernel_rfl) (fun _ _ _ h => h) (Or.inl ⟨by rfl, ?ay25⟩) T0 ?_
            case ay25 => (intro V hSw; go_simp; try with_reducible rfl)
            try simp only [Act.put, List.setIfInBounds_toArray, List.set_cons_zero, List.set_cons_succ]
            refine wpAnyH_take (i := 5) (oi := ({ dst := some 71, op := Op.load 9 (Operand.tmp 70), type := 9, pos := "law.go:226", after := #[{ on := 4, ground := Ground.data }], guard := none } : Oper)) (v := ?av26) rfl (by kernel_rfl) (by kernel_rfl) (by kernel_rfl) (fun _ _ _ h => h) (Or.inl ⟨by rfl, ?ay26⟩) T0 ?_
            case ay26 => (intro V hSw; have e1 := (hSw.cell (p := ⟨y1, 0, none⟩) hl1).trans n10; have e2 := (hSw.cell (p := ⟨y1, 1, none⟩) hl1).trans n11; go_simp; try with_reducible rfl)
            try simp only [Act.put, List.setIfInBounds_toArray, List.set_cons_zero, List.set_cons_succ]
            refine wpAnyH_take (i := 6) (oi := ({ dst := some 72, op := Op.binOp BinOp.eql 9 (Operand.tmp 71) (Operand.const (Value.string { data := #[] })) 9, type := 4, pos := "law.go:226", after := #[{ on := 5, ground := Ground.data }], guard := none } : Oper)) (v := ?av27) rfl (by kernel_rfl) (by kernel_rfl) (by kernel_rfl) (fun _ _ _ h => h) (Or.inl ⟨by rfl, ?ay27⟩) T0 ?_
            case ay27 => (intro V hSw; go_simp; try with_reducible rfl)
            try simp only [Act.put, List.setIfInBounds_toArray, List.set_cons_zero, List.set_cons_succ]
            refine wpAnyH_ready (rs := [3]) (by kernel_rfl) (by simp) ?_
            refine (AllReadyH.cons (o := _) rfl (fun K hK => ?_) AllReadyH.nil)
            go_simp
            go_at_call 23
            refine (Sub_any (HT2.out.below ((X.out.trans (T0.mono X.out.size)).mono HT2.out.hB)) (by exact hz1) (by exact hz1)).mono ?_
            rintro e W28 ⟨r1, rfl, hr1, hb28⟩
            obtain rfl : r1 = true := hr1.2 ((sub_self HG.out).2 HN2.out)
            have T28 := T0.trans (hb28.mono T0.size)
            clear hr1
            try go_wp2_with fail
            refine hK.out _ _ T28 (fun hS28 => ?_)
            clear hK K
            try simp only [Act.put, List.setIfInBounds_toArray, List.set_cons_zero, List.set_cons_succ]
            refine wpAnyH_take (i := 7) (oi := ({ dst := some 73, op := Op.move (Operand.tmp 72), type := 4, pos := "law.go:226", after := #[{ on := 6, ground := Ground.data }, { on := 3, ground := Ground.chain }], guard := none } : Oper)) (v := ?av29) rfl (by kernel_rfl) (by kernel_rfl) (by kernel_rfl) (fun _ _ _ h => h) (Or.inl ⟨by rfl, ?ay29⟩) T28 ?_
            case ay29 => (intro V hSw; go_simp; try with_reducible rfl)
            try simp only [Act.put, List.setIfInBounds_toArray, List.set_cons_zero, List.set_cons_succ]
            refine wpAnyH_take (i := 8) (oi := ({ dst := some 74, op := Op.move (Operand.tmp 13), type := 4, pos := "law.go:226", after := #[{ on := 7, ground := Ground.guard }], guard := some (7, false) } : Oper)) (v := ?av30) rfl (by kernel_rfl) (by kernel_rfl) (by kernel_rfl) (fun _ _ _ h => h) (Or.inl ⟨by rfl, ?ay30⟩) T28 ?_
            case ay30 => (intro V hSw; go_simp; try with_reducible rfl)
            try simp only [Act.put, List.setIfInBounds_toArray, List.set_cons_zero, List.set_cons_succ]
            refine wpAnyH_take (i := 9) (oi := ({ dst := some 75, op := Op.pick (Operand.tmp 73) (Operand.const (Value.bool true)) (Operand.tmp 74), type := 4, pos := "law.go:226", after := #[{ on := 7, ground := Ground.data }, { on := 8, ground := Ground.data }], guard := none } : Oper)) (v := ?av31) rfl (by kernel_rfl) (by kernel_rfl) (by kernel_rfl) (fun _ _ _ h => h) (Or.inl ⟨by rfl, ?ay31⟩) T28 ?_
            case ay31 => (intro V hSw; go_simp; try with_reducible rfl)
            try simp only [Act.put, List.setIfInBounds_toArray, List.set_cons_zero, List.set_cons_succ]
            refine wpAnyH_take (i := 10) (oi := ({ dst := some 76, op := Op.binOp BinOp.neq 4 (Operand.tmp 69) (Operand.tmp 75) 4, type := 4, pos := "law.go:226", after := #[{ on := 3, ground := Ground.data }, { on := 9, ground := Ground.data }], guard := none } : Oper)) (v := ?av32) rfl (by kernel_rfl) (by kernel_rfl) (by kernel_rfl) (fun _ _ _ h => h) (Or.inl ⟨by rfl, ?ay32⟩) T28 ?_
            case ay32 => (intro V hSw; go_simp; try with_reducible rfl)
            try simp only [Act.put, List.setIfInBounds_toArray, List.set_cons_zero, List.set_cons_succ]
            refine wpAnyH_done (by kernel_rfl) ?_ _
            try go_wp2
            go_meet
            case rel => exact ⟨rfl, T28⟩
      obtain ⟨rfl, hb⟩ := hcut
      obtain ⟨V3x, hV⟩ : ∃ x, x = wc := ⟨_, rfl⟩
      subst hV
      replace X := Lib.hid (X.out.trans (hb.mono X.out.size))
      replace H1 := Lib.hid ((hb.block _ (lt_of_block H1.out)).trans H1.out)
      clear hb
      go_wp2
      go_loopg [14] q (fun g iv wx => ∃ k : Nat, iv = .int .i64 k ∧ k + g = q ∧ Below V3x.heap.size V3x wx)
      case atStart => exact ⟨0, rfl, by omega, Below.refl _ _⟩
      case round => as_aux_lemma =>
        obtain ⟨k, rfl, hkg, hb⟩ := hrel
        obtain ⟨wc, hwc⟩ : ∃ x, x = wr := ⟨_, rfl⟩
        subst hwc
        obtain ⟨g2, hgn⟩ : ∃ g, g = gk := ⟨_, rfl⟩
        subst hgn
        have Z := Lib.hid (Below.refl V3x.heap.size V3x)
        obtain ⟨V4x, hV⟩ : ∃ x, x = wc := ⟨_, rfl⟩
        subst hV
        replace X := Lib.hid (X.out.trans (hb.mono X.out.size))
        replace Z := Lib.hid (Z.out.trans (hb.mono Z.out.size))
        replace H1 := Lib.hid ((hb.block _ (lt_of_block H1.out)).trans H1.out)
        clear hb
        by_cases hkq : k < q
        · obtain ⟨⟨dk, sk⟩, htk⟩ : ∃ t, (typesR l)[k]? = some t := ⟨_, List.getElem?_eq_getElem (by rw [HQ.out]; exact hkq)⟩
          obtain ⟨bt', ot', e0, hbt', cb0, cb1⟩ := TR.out.at_ htk
          injection e0 with e0
          injection e0 with e0 e1
          subst e0
          subst e1
          have hzk := types_small htk
          simp only at hzk cb0 cb1
          have Ck := Lib.hid (And.intro cb0 cb1)
          have hgxk : g2 - 1 < g2 := by omega
          clear htk hbt' cb0 cb1
          go_upto_region 18 with fail
          go_cut [15] (fun va wx => ∃ y, va = .pointer (some ⟨y, 0, none⟩) ∧ Below V4x.heap.size V4x wx ∧ wx.heap[y]? = some (.cells #[.int .i64 dk, .string sk] 31 (0, 0)))
          case first => as_aux_lemma =>
            have e1 := (X.out.cell (p := ⟨bt, ot + k * 2, none⟩) hbt).trans Ck.out.1
            have e2 := (X.out.cell (p := ⟨bt, ot + k * 2 + 1, none⟩) hbt).trans Ck.out.2
            have hbtw : bt < V4x.heap.size := Nat.lt_of_lt_of_le hbt X.out.size
            go_wp2_with fail
            go_meet
            case rel => exact ⟨_, rfl, (Below.refl _ _).alloc (Nat.le_refl _) _, hheap_new _ _⟩
          obtain ⟨yk, rfl, hb, hyk⟩ := hcut
          obtain ⟨V5x, hV⟩ : ∃ x, x = wc := ⟨_, rfl⟩
          subst hV
          replace X := Lib.hid (X.out.trans (hb.mono X.out.size))
          replace Z := Lib.hid (Z.out.trans (hb.mono Z.out.size))
          replace H1 := Lib.hid ((hb.block _ (lt_of_block H1.out)).trans H1.out)
          have Hk := Lib.hid hyk
          clear hb
          clear hyk
          go_upto_region 19 with fail
          go_cut [16, 17] (fun va vb wx => ∃ y d s ok, va = .pointer (some ⟨y, 0, none⟩) ∧ vb = .bool ok ∧ LubIs ds (d1, s1.data.toList) (dk, sk.data.toList) d s ok ∧ Below V5x.heap.size V5x wx ∧ wx.heap[y]? = some (.cells #[.int .i64 d, .string s] 31 (0, 0)))
          case first => as_aux_lemma =>
            have n10 : V5x.cell? ⟨y1, 0, none⟩ = some (.int .i64 d1) := kcells_of H1.out 0
            have n11 : V5x.cell? ⟨y1, 1, none⟩ = some (.string s1) := kcells_of H1.out 1
            have hl1 := lt_of_block H1.out
            have nk0 : V5x.cell? ⟨yk, 0, none⟩ = some (.int .i64 dk) := kcells_of Hk.out 0
            have nk1 : V5x.cell? ⟨yk, 1, none⟩ = some (.string sk) := kcells_of Hk.out 1
            have hlk := lt_of_block Hk.out
            go_wp2_with fail
            refine (lub_is_any (HT2.out.below (X.out.mono HT2.out.hB)) (by exact hz1) (by exact hzk)).mono ?_
            rintro e x1 ⟨d, s, ok, rfl, hL, b1⟩
            have LL := Lib.hid hL
            have B1 := Lib.hid b1
            clear hL b1
            go_wp2
            go_meet
            case rel => exact ⟨_, _, _, _, rfl, rfl, LL.out, B1.out.alloc B1.out.size _, hheap_new _ _⟩
          obtain ⟨yx, dx, sx, okx, rfl, rfl, hL, hb, hyx⟩ := hcut
          have Lx := Lib.hid hL
          have hzx := hL.hsz
          clear hL
          obtain ⟨V6x, hV⟩ : ∃ x, x = wc := ⟨_, rfl⟩
          subst hV
          replace X := Lib.hid (X.out.trans (hb.mono X.out.size))
          replace Z := Lib.hid (Z.out.trans (hb.mono Z.out.size))
          replace H1 := Lib.hid ((hb.block _ (lt_of_block H1.out)).trans H1.out)
          replace Hk := Lib.hid ((hb.block _ (lt_of_block Hk.out)).trans Hk.out)
          have Hx := Lib.hid hyx
          clear hb
          clear hyx
          go_upto_region 20 with fail
          go_cut [108] (fun v wx => v = .bool false ∧ Below V6x.heap.size V6x wx)
          case first => as_aux_lemma =>
            cases okx with
            | false =>
              go_wp2
              go_meet
              case rel => exact ⟨rfl, Below.refl _ _⟩
            | true =>
              have n10 : V6x.cell? ⟨y1, 0, none⟩ = some (.int .i64 d1) := kcells_of H1.out 0
              have n11 : V6x.cell? ⟨y1, 1, none⟩ = some (.string s1) := kcells_of H1.out 1
              have hl1 := lt_of_block H1.out
              have nk0 : V6x.cell? ⟨yk, 0, none⟩ = some (.int .i64 dk) := kcells_of Hk.out 0
              have nk1 : V6x.cell? ⟨yk, 1, none⟩ = some (.string sk) := kcells_of Hk.out 1
              have hlk := lt_of_block Hk.out
              have nx0 : V6x.cell? ⟨yx, 0, none⟩ = some (.int .i64 dx) := kcells_of Hx.out 0
              have nx1 : V6x.cell? ⟨yx, 1, none⟩ = some (.string sx) := kcells_of Hx.out 1
              have hlx := lt_of_block Hx.out
              go_wp2_with fail
              refine (Sub_any (HT2.out.below ((X.out.trans ((Below.refl V6x.heap.size V6x).mono X.out.size)).mono HT2.out.hB)) (by exact hz1) (by exact hzx)).mono ?_
              rintro e Y1 ⟨r1, rfl, hr1, hb1⟩
              have T1 := Lib.hid ((Below.refl V6x.heap.size V6x).trans (hb1.mono (Below.refl V6x.heap.size V6x).size))
              have R1 := Lib.hid hr1
              clear hr1 hb1
              obtain rfl : r1 = true := R1.out.2 (Lx.out.above HG.out).1
              clear n10 n11 hl1 nk0 nk1 hlk nx0 nx1 hlx
              have nk0 : Y1.cell? ⟨yk, 0, none⟩ = some (.int .i64 dk) := kcells_of ((T1.out.block _ (lt_of_block Hk.out)).trans Hk.out) 0
              have nk1 : Y1.cell? ⟨yk, 1, none⟩ = some (.string sk) := kcells_of ((T1.out.block _ (lt_of_block Hk.out)).trans Hk.out) 1
              have hlk := lt_of_block ((T1.out.block _ (lt_of_block Hk.out)).trans Hk.out)
              have nx0 : Y1.cell? ⟨yx, 0, none⟩ = some (.int .i64 dx) := kcells_of ((T1.out.block _ (lt_of_block Hx.out)).trans Hx.out) 0
              have nx1 : Y1.cell? ⟨yx, 1, none⟩ = some (.string sx) := kcells_of ((T1.out.block _ (lt_of_block Hx.out)).trans Hx.out) 1
              have hlx := lt_of_block ((T1.out.block _ (lt_of_block Hx.out)).trans Hx.out)
              go_wp2_with fail
              refine (Sub_any (HT2.out.below ((X.out.trans (T1.out.mono X.out.size)).mono HT2.out.hB)) (by exact hzk) (by exact hzx)).mono ?_
              rintro e Y2 ⟨r2, rfl, hr2, hb2⟩
              have T2 := Lib.hid (T1.out.trans (hb2.mono T1.out.size))
              have R2 := Lib.hid hr2
              clear hr2 hb2
              obtain rfl : r2 = true := R2.out.2 (Lx.out.above HG.out).2
              go_wp2
              go_meet
              case rel => exact ⟨rfl, T2.out⟩
          obtain ⟨rfl, hb⟩ := hcut
          obtain ⟨V7x, hV⟩ : ∃ x, x = wc := ⟨_, rfl⟩
          subst hV
          replace X := Lib.hid (X.out.trans (hb.mono X.out.size))
          replace Z := Lib.hid (Z.out.trans (hb.mono Z.out.size))
          replace H1 := Lib.hid ((hb.block _ (lt_of_block H1.out)).trans H1.out)
          replace Hk := Lib.hid ((hb.block _ (lt_of_block Hk.out)).trans Hk.out)
          replace Hx := Lib.hid ((hb.block _ (lt_of_block Hx.out)).trans Hx.out)
          clear hb
          go_upto_region 22 with fail
          go_cut [18, 19] (fun va vb wx => ∃ y d s ok, va = .pointer (some ⟨y, 0, none⟩) ∧ vb = .bool ok ∧ LubIs ds (dk, sk.data.toList) (d1, s1.data.toList) d s ok ∧ Below V7x.heap.size V7x wx ∧ wx.heap[y]? = some (.cells #[.int .i64 d, .string s] 31 (0, 0)))
          case first => as_aux_lemma =>
            have nk0 : V7x.cell? ⟨yk, 0, none⟩ = some (.int .i64 dk) := kcells_of Hk.out 0
            have nk1 : V7x.cell? ⟨yk, 1, none⟩ = some (.string sk) := kcells_of Hk.out 1
            have hlk := lt_of_block Hk.out
            have n10 : V7x.cell? ⟨y1, 0, none⟩ = some (.int .i64 d1) := kcells_of H1.out 0
            have n11 : V7x.cell? ⟨y1, 1, none⟩ = some (.string s1) := kcells_of H1.out 1
            have hl1 := lt_of_block H1.out
            go_wp2_with fail
            refine (lub_is_any (HT2.out.below (X.out.mono HT2.out.hB)) (by exact hzk) (by exact hz1)).mono ?_
            rintro e x1 ⟨d, s, ok, rfl, hL, b1⟩
            have LL := Lib.hid hL
            have B1 := Lib.hid b1
            clear hL b1
            go_wp2
            go_meet
            case rel => exact ⟨_, _, _, _, rfl, rfl, LL.out, B1.out.alloc B1.out.size _, hheap_new _ _⟩
          obtain ⟨yz, dz, sz, okz, rfl, rfl, hL, hb, hyz⟩ := hcut
          have Lz := Lib.hid hL
          have hzz := hL.hsz
          clear hL
          obtain ⟨V8x, hV⟩ : ∃ x, x = wc := ⟨_, rfl⟩
          subst hV
          replace X := Lib.hid (X.out.trans (hb.mono X.out.size))
          replace Z := Lib.hid (Z.out.trans (hb.mono Z.out.size))
          replace H1 := Lib.hid ((hb.block _ (lt_of_block H1.out)).trans H1.out)
          replace Hk := Lib.hid ((hb.block _ (lt_of_block Hk.out)).trans Hk.out)
          replace Hx := Lib.hid ((hb.block _ (lt_of_block Hx.out)).trans Hx.out)
          have Hz := Lib.hid hyz
          clear hb
          clear hyz
          go_upto_region 23 with fail
          go_cut [123] (fun v wx => v = .bool false ∧ Below V8x.heap.size V8x wx)
          case first => as_aux_lemma =>
            obtain ⟨e1, e2, e3⟩ := Lx.out.comm HG.out Lz.out
            subst e1
            subst e2
            subst e3
            have q1 : ∀ V : World, (binOp .neq 31 (.agg #[.int .i64 dx, .string sx]) (.agg #[.int .i64 dx, .string sx])).run Tryz.prog V = .ok (.bool false) V := fun V => (neq31 dx dx sx sx V).trans (by simp)
            have nx0 : V8x.cell? ⟨yx, 0, none⟩ = some (.int .i64 dx) := kcells_of Hx.out 0
            have nx1 : V8x.cell? ⟨yx, 1, none⟩ = some (.string sx) := kcells_of Hx.out 1
            have hlx := lt_of_block Hx.out
            have nz0 : V8x.cell? ⟨yz, 0, none⟩ = some (.int .i64 dx) := kcells_of Hz.out 0
            have nz1 : V8x.cell? ⟨yz, 1, none⟩ = some (.string sx) := kcells_of Hz.out 1
            have hlz := lt_of_block Hz.out
            cases okx with
            | false =>
              go_wp2
              go_meet
              case rel => exact ⟨rfl, Below.refl _ _⟩
            | true =>
              go_wp2
              go_meet
              case rel => exact ⟨rfl, Below.refl _ _⟩
          obtain ⟨rfl, hb⟩ := hcut
          obtain ⟨V9x, hV⟩ : ∃ x, x = wc := ⟨_, rfl⟩
          subst hV
          replace X := Lib.hid (X.out.trans (hb.mono X.out.size))
          replace Z := Lib.hid (Z.out.trans (hb.mono Z.out.size))
          replace H1 := Lib.hid ((hb.block _ (lt_of_block H1.out)).trans H1.out)
          replace Hk := Lib.hid ((hb.block _ (lt_of_block Hk.out)).trans Hk.out)
          replace Hx := Lib.hid ((hb.block _ (lt_of_block Hx.out)).trans Hx.out)
          replace Hz := Lib.hid ((hb.block _ (lt_of_block Hz.out)).trans Hz.out)
          clear hb
          go_wp2
          go_loopg [20] q (fun g iv wx => ∃ k : Nat, iv = .int .i64 k ∧ k + g = q ∧ Below V9x.heap.size V9x wx)
          case atStart => exact ⟨0, rfl, by omega, Below.refl _ _⟩
          case round => as_aux_lemma =>
            obtain ⟨j, rfl, hjg, hb⟩ := hrel
            obtain ⟨wc, hwc⟩ : ∃ x, x = wr := ⟨_, rfl⟩
            subst hwc
            obtain ⟨g3, hgn⟩ : ∃ g, g = gk := ⟨_, rfl⟩
            subst hgn
            have Z2 := Lib.hid (Below.refl V9x.heap.size V9x)
            obtain ⟨V10x, hV⟩ : ∃ x, x = wc := ⟨_, rfl⟩
            subst hV
            replace X := Lib.hid (X.out.trans (hb.mono X.out.size))
            replace Z := Lib.hid (Z.out.trans (hb.mono Z.out.size))
            replace Z2 := Lib.hid (Z2.out.trans (hb.mono Z2.out.size))
            replace H1 := Lib.hid ((hb.block _ (lt_of_block H1.out)).trans H1.out)
            replace Hk := Lib.hid ((hb.block _ (lt_of_block Hk.out)).trans Hk.out)
            replace Hx := Lib.hid ((hb.block _ (lt_of_block Hx.out)).trans Hx.out)
            replace Hz := Lib.hid ((hb.block _ (lt_of_block Hz.out)).trans Hz.out)
            clear hb
            by_cases hjq : j < q
            · obtain ⟨⟨dj, sj⟩, htj⟩ : ∃ t, (typesR l)[j]? = some t := ⟨_, List.getElem?_eq_getElem (by rw [HQ.out]; exact hjq)⟩
              obtain ⟨bt', ot', e0, hbt', cb0, cb1⟩ := TR.out.at_ htj
              injection e0 with e0
              injection e0 with e0 e1
              subst e0
              subst e1
              have hzj := types_small htj
              simp only at hzj cb0 cb1
              have Cj := Lib.hid (And.intro cb0 cb1)
              have hgxj : g3 - 1 < g3 := by omega
              clear htj hbt' cb0 cb1
              go_upto_region 28 with fail
              go_cut [21] (fun va wx => ∃ y, va = .pointer (some ⟨y, 0, none⟩) ∧ Below V10x.heap.size V10x wx ∧ wx.heap[y]? = some (.cells #[.int .i64 dj, .string sj] 31 (0, 0)))
              case first => as_aux_lemma =>
                have e1 := (X.out.cell (p := ⟨bt, ot + j * 2, none⟩) hbt).trans Cj.out.1
                have e2 := (X.out.cell (p := ⟨bt, ot + j * 2 + 1, none⟩) hbt).trans Cj.out.2
                have hbtw : bt < V10x.heap.size := Nat.lt_of_lt_of_le hbt X.out.size
                go_wp2_with fail
                go_meet
                case rel => exact ⟨_, rfl, (Below.refl _ _).alloc (Nat.le_refl _) _, hheap_new _ _⟩
              obtain ⟨yj, rfl, hb, hyj⟩ := hcut
              obtain ⟨V11x, hV⟩ : ∃ x, x = wc := ⟨_, rfl⟩
              subst hV
              replace X := Lib.hid (X.out.trans (hb.mono X.out.size))
              replace Z := Lib.hid (Z.out.trans (hb.mono Z.out.size))
              replace Z2 := Lib.hid (Z2.out.trans (hb.mono Z2.out.size))
              replace H1 := Lib.hid ((hb.block _ (lt_of_block H1.out)).trans H1.out)
              replace Hk := Lib.hid ((hb.block _ (lt_of_block Hk.out)).trans Hk.out)
              replace Hx := Lib.hid ((hb.block _ (lt_of_block Hx.out)).trans Hx.out)
              replace Hz := Lib.hid ((hb.block _ (lt_of_block Hz.out)).trans Hz.out)
              have Hj := Lib.hid hyj
              clear hb
              clear hyj
              go_upto_region 29 with fail
              go_cut [22, 23] (fun va vb wx => ∃ y d s ok, va = .pointer (some ⟨y, 0, none⟩) ∧ vb = .bool ok ∧ LubIs ds (dx, sx.data.toList) (dj, sj.data.toList) d s ok ∧ Below V11x.heap.size V11x wx ∧ wx.heap[y]? = some (.cells #[.int .i64 d, .string s] 31 (0, 0)))
              case first => as_aux_lemma =>
                have nx0 : V11x.cell? ⟨yx, 0, none⟩ = some (.int .i64 dx) := kcells_of Hx.out 0
                have nx1 : V11x.cell? ⟨yx, 1, none⟩ = some (.string sx) := kcells_of Hx.out 1
                have hlx := lt_of_block Hx.out
                have nj0 : V11x.cell? ⟨yj, 0, none⟩ = some (.int .i64 dj) := kcells_of Hj.out 0
                have nj1 : V11x.cell? ⟨yj, 1, none⟩ = some (.string sj) := kcells_of Hj.out 1
                have hlj := lt_of_block Hj.out
                go_wp2_with fail
                refine (lub_is_any (HT2.out.below (X.out.mono HT2.out.hB)) (by exact hzx) (by exact hzj)).mono ?_
                rintro e x1 ⟨d, s, ok, rfl, hL, b1⟩
                have LL := Lib.hid hL
                have B1 := Lib.hid b1
                clear hL b1
                go_wp2
                go_meet
                case rel => exact ⟨_, _, _, _, rfl, rfl, LL.out, B1.out.alloc B1.out.size _, hheap_new _ _⟩
              obtain ⟨yv, dv, sv, okv, rfl, rfl, hL, hb, hyv⟩ := hcut
              have Lv := Lib.hid hL
              have hzv := hL.hsz
              clear hL
              obtain ⟨V12x, hV⟩ : ∃ x, x = wc := ⟨_, rfl⟩
              subst hV
              replace X := Lib.hid (X.out.trans (hb.mono X.out.size))
              replace Z := Lib.hid (Z.out.trans (hb.mono Z.out.size))
              replace Z2 := Lib.hid (Z2.out.trans (hb.mono Z2.out.size))
              replace H1 := Lib.hid ((hb.block _ (lt_of_block H1.out)).trans H1.out)
              replace Hk := Lib.hid ((hb.block _ (lt_of_block Hk.out)).trans Hk.out)
              replace Hx := Lib.hid ((hb.block _ (lt_of_block Hx.out)).trans Hx.out)
              replace Hz := Lib.hid ((hb.block _ (lt_of_block Hz.out)).trans Hz.out)
              replace Hj := Lib.hid ((hb.block _ (lt_of_block Hj.out)).trans Hj.out)
              have Hv := Lib.hid hyv
              clear hb
              clear hyv
              go_upto_region 30 with fail
              go_cut [24, 25] (fun va vb wx => ∃ y d s ok, va = .pointer (some ⟨y, 0, none⟩) ∧ vb = .bool ok ∧ LubIs ds (dk, sk.data.toList) (dj, sj.data.toList) d s ok ∧ Below V12x.heap.size V12x wx ∧ wx.heap[y]? = some (.cells #[.int .i64 d, .string s] 31 (0, 0)))
              case first => as_aux_lemma =>
                have nk0 : V12x.cell? ⟨yk, 0, none⟩ = some (.int .i64 dk) := kcells_of Hk.out 0
                have nk1 : V12x.cell? ⟨yk, 1, none⟩ = some (.string sk) := kcells_of Hk.out 1
                have hlk := lt_of_block Hk.out
                have nj0 : V12x.cell? ⟨yj, 0, none⟩ = some (.int .i64 dj) := kcells_of Hj.out 0
                have nj1 : V12x.cell? ⟨yj, 1, none⟩ = some (.string sj) := kcells_of Hj.out 1
                have hlj := lt_of_block Hj.out
                go_wp2_with fail
                refine (lub_is_any (HT2.out.below (X.out.mono HT2.out.hB)) (by exact hzk) (by exact hzj)).mono ?_
                rintro e x1 ⟨d, s, ok, rfl, hL, b1⟩
                have LL := Lib.hid hL
                have B1 := Lib.hid b1
                clear hL b1
                go_wp2
                go_meet
                case rel => exact ⟨_, _, _, _, rfl, rfl, LL.out, B1.out.alloc B1.out.size _, hheap_new _ _⟩
              obtain ⟨yt, dt, st, okt, rfl, rfl, hL, hb, hyt⟩ := hcut
              have Lt := Lib.hid hL
              have hzt := hL.hsz
              clear hL
              obtain ⟨V13x, hV⟩ : ∃ x, x = wc := ⟨_, rfl⟩
              subst hV
              replace X := Lib.hid (X.out.trans (hb.mono X.out.size))
              replace Z := Lib.hid (Z.out.trans (hb.mono Z.out.size))
              replace Z2 := Lib.hid (Z2.out.trans (hb.mono Z2.out.size))
              replace H1 := Lib.hid ((hb.block _ (lt_of_block H1.out)).trans H1.out)
              replace Hk := Lib.hid ((hb.block _ (lt_of_block Hk.out)).trans Hk.out)
              replace Hx := Lib.hid ((hb.block _ (lt_of_block Hx.out)).trans Hx.out)
              replace Hz := Lib.hid ((hb.block _ (lt_of_block Hz.out)).trans Hz.out)
              replace Hj := Lib.hid ((hb.block _ (lt_of_block Hj.out)).trans Hj.out)
              replace Hv := Lib.hid ((hb.block _ (lt_of_block Hv.out)).trans Hv.out)
              have Ht := Lib.hid hyt
              clear hb
              clear hyt
              go_upto_region 31 with fail
              go_cut [26, 27] (fun va vb wx => ∃ y d s ok, va = .pointer (some ⟨y, 0, none⟩) ∧ vb = .bool ok ∧ LubIs ds (d1, s1.data.toList) (dt, st.data.toList) d s ok ∧ Below V13x.heap.size V13x wx ∧ wx.heap[y]? = some (.cells #[.int .i64 d, .string s] 31 (0, 0)))
              case first => as_aux_lemma =>
                have n10 : V13x.cell? ⟨y1, 0, none⟩ = some (.int .i64 d1) := kcells_of H1.out 0
                have n11 : V13x.cell? ⟨y1, 1, none⟩ = some (.string s1) := kcells_of H1.out 1
                have hl1 := lt_of_block H1.out
                have nt0 : V13x.cell? ⟨yt, 0, none⟩ = some (.int .i64 dt) := kcells_of Ht.out 0
                have nt1 : V13x.cell? ⟨yt, 1, none⟩ = some (.string st) := kcells_of Ht.out 1
                have hlt := lt_of_block Ht.out
                go_wp2_with fail
                refine (lub_is_any (HT2.out.below (X.out.mono HT2.out.hB)) (by exact hz1) (by exact hzt)).mono ?_
                rintro e x1 ⟨d, s, ok, rfl, hL, b1⟩
                have LL := Lib.hid hL
                have B1 := Lib.hid b1
                clear hL b1
                go_wp2
                go_meet
                case rel => exact ⟨_, _, _, _, rfl, rfl, LL.out, B1.out.alloc B1.out.size _, hheap_new _ _⟩
              obtain ⟨yr, dr, sr, okr, rfl, rfl, hL, hb, hyr⟩ := hcut
              have Lr := Lib.hid hL
              have hzr := hL.hsz
              clear hL
              obtain ⟨V14x, hV⟩ : ∃ x, x = wc := ⟨_, rfl⟩
              subst hV
              replace X := Lib.hid (X.out.trans (hb.mono X.out.size))
              replace Z := Lib.hid (Z.out.trans (hb.mono Z.out.size))
              replace Z2 := Lib.hid (Z2.out.trans (hb.mono Z2.out.size))
              replace H1 := Lib.hid ((hb.block _ (lt_of_block H1.out)).trans H1.out)
              replace Hk := Lib.hid ((hb.block _ (lt_of_block Hk.out)).trans Hk.out)
              replace Hx := Lib.hid ((hb.block _ (lt_of_block Hx.out)).trans Hx.out)
              replace Hz := Lib.hid ((hb.block _ (lt_of_block Hz.out)).trans Hz.out)
              replace Hj := Lib.hid ((hb.block _ (lt_of_block Hj.out)).trans Hj.out)
              replace Hv := Lib.hid ((hb.block _ (lt_of_block Hv.out)).trans Hv.out)
              replace Ht := Lib.hid ((hb.block _ (lt_of_block Ht.out)).trans Ht.out)
              have Hr := Lib.hid hyr
              clear hb
              clear hyr
              go_upto_region 32 with fail
              go_cut [170] (fun v wx => v = .bool false ∧ Below V14x.heap.size V14x wx)
              case first => as_aux_lemma =>
                cases okx with
                | false =>
                  go_wp2
                  go_meet
                  case rel => exact ⟨rfl, Below.refl _ _⟩
                | true =>
                  cases okv with
                  | false =>
                    go_wp2
                    go_meet
                    case rel => exact ⟨rfl, Below.refl _ _⟩
                  | true =>
                    cases okt with
                    | false =>
                      go_wp2
                      go_meet
                      case rel => exact ⟨rfl, Below.refl _ _⟩
                    | true =>
                      obtain ⟨e1, e2, e3⟩ := LubIs.assoc HG.out Lx.out Lt.out rfl rfl Lv.out Lr.out
                      subst e1
                      subst e2
                      subst e3
                      have q1 : ∀ V : World, (binOp .neq 31 (.agg #[.int .i64 dv, .string sv]) (.agg #[.int .i64 dv, .string sv])).run Tryz.prog V = .ok (.bool false) V := fun V => (neq31 dv dv sv sv V).trans (by simp)
                      have nv0 : V14x.cell? ⟨yv, 0, none⟩ = some (.int .i64 dv) := kcells_of Hv.out 0
                      have nv1 : V14x.cell? ⟨yv, 1, none⟩ = some (.string sv) := kcells_of Hv.out 1
                      have hlv := lt_of_block Hv.out
                      have nr0 : V14x.cell? ⟨yr, 0, none⟩ = some (.int .i64 dv) := kcells_of Hr.out 0
                      have nr1 : V14x.cell? ⟨yr, 1, none⟩ = some (.string sv) := kcells_of Hr.out 1
                      have hlr := lt_of_block Hr.out
                      go_wp2
                      go_meet
                      case rel => exact ⟨rfl, Below.refl _ _⟩
              obtain ⟨rfl, hb⟩ := hcut
              obtain ⟨V15x, hV⟩ : ∃ x, x = wc := ⟨_, rfl⟩
              subst hV
              replace X := Lib.hid (X.out.trans (hb.mono X.out.size))
              replace Z := Lib.hid (Z.out.trans (hb.mono Z.out.size))
              replace Z2 := Lib.hid (Z2.out.trans (hb.mono Z2.out.size))
              replace H1 := Lib.hid ((hb.block _ (lt_of_block H1.out)).trans H1.out)
              replace Hk := Lib.hid ((hb.block _ (lt_of_block Hk.out)).trans Hk.out)
              replace Hx := Lib.hid ((hb.block _ (lt_of_block Hx.out)).trans Hx.out)
              replace Hz := Lib.hid ((hb.block _ (lt_of_block Hz.out)).trans Hz.out)
              replace Hj := Lib.hid ((hb.block _ (lt_of_block Hj.out)).trans Hj.out)
              replace Hv := Lib.hid ((hb.block _ (lt_of_block Hv.out)).trans Hv.out)
              replace Ht := Lib.hid ((hb.block _ (lt_of_block Ht.out)).trans Ht.out)
              replace Hr := Lib.hid ((hb.block _ (lt_of_block Hr.out)).trans Hr.out)
              clear hb
              go_upto_region 34 with fail
              go_cut [187] (fun v wx => v = .bool false ∧ Below V15x.heap.size V15x wx)
              case first => as_aux_lemma =>
                have n10 : V15x.cell? ⟨y1, 0, none⟩ = some (.int .i64 d1) := kcells_of H1.out 0
                have n11 : V15x.cell? ⟨y1, 1, none⟩ = some (.string s1) := kcells_of H1.out 1
                have hl1 := lt_of_block H1.out
                have nk0 : V15x.cell? ⟨yk, 0, none⟩ = some (.int .i64 dk) := kcells_of Hk.out 0
                have nk1 : V15x.cell? ⟨yk, 1, none⟩ = some (.string sk) := kcells_of Hk.out 1
                have hlk := lt_of_block Hk.out
                have nj0 : V15x.cell? ⟨yj, 0, none⟩ = some (.int .i64 dj) := kcells_of Hj.out 0
                have nj1 : V15x.cell? ⟨yj, 1, none⟩ = some (.string sj) := kcells_of Hj.out 1
                have hlj := lt_of_block Hj.out
                go_wp2_with fail
                refine (Sub_any (HT2.out.below ((X.out.trans ((Below.refl V15x.heap.size V15x).mono X.out.size)).mono HT2.out.hB)) (by exact hz1) (by exact hzk)).mono ?_
                rintro e Y3 ⟨r3, rfl, hr3, hb3⟩
                have T3 := Lib.hid ((Below.refl V15x.heap.size V15x).trans (hb3.mono (Below.refl V15x.heap.size V15x).size))
                have R3 := Lib.hid hr3
                clear hr3 hb3
                clear n10 n11 hl1 nk0 nk1 hlk nj0 nj1 hlj
                cases r3 with
                | false =>
                  go_wp2
                  go_meet
                  case rel => exact ⟨rfl, T3.out⟩
                | true =>
                  have n10 : Y3.cell? ⟨y1, 0, none⟩ = some (.int .i64 d1) := kcells_of ((T3.out.block _ (lt_of_block H1.out)).trans H1.out) 0
                  have n11 : Y3.cell? ⟨y1, 1, none⟩ = some (.string s1) := kcells_of ((T3.out.block _ (lt_of_block H1.out)).trans H1.out) 1
                  have hl1 := lt_of_block ((T3.out.block _ (lt_of_block H1.out)).trans H1.out)
                  have nk0 : Y3.cell? ⟨yk, 0, none⟩ = some (.int .i64 dk) := kcells_of ((T3.out.block _ (lt_of_block Hk.out)).trans Hk.out) 0
                  have nk1 : Y3.cell? ⟨yk, 1, none⟩ = some (.string sk) := kcells_of ((T3.out.block _ (lt_of_block Hk.out)).trans Hk.out) 1
                  have hlk := lt_of_block ((T3.out.block _ (lt_of_block Hk.out)).trans Hk.out)
                  have nj0 : Y3.cell? ⟨yj, 0, none⟩ = some (.int .i64 dj) := kcells_of ((T3.out.block _ (lt_of_block Hj.out)).trans Hj.out) 0
                  have nj1 : Y3.cell? ⟨yj, 1, none⟩ = some (.string sj) := kcells_of ((T3.out.block _ (lt_of_block Hj.out)).trans Hj.out) 1
                  have hlj := lt_of_block ((T3.out.block _ (lt_of_block Hj.out)).trans Hj.out)
                  go_wp2_with fail
                  refine (Sub_any (HT2.out.below ((X.out.trans (T3.out.mono X.out.size)).mono HT2.out.hB)) (by exact hzk) (by exact hzj)).mono ?_
                  rintro e Y4 ⟨r4, rfl, hr4, hb4⟩
                  have T4 := Lib.hid (T3.out.trans (hb4.mono T3.out.size))
                  have R4 := Lib.hid hr4
                  clear hr4 hb4
                  clear n10 n11 hl1 nk0 nk1 hlk nj0 nj1 hlj
                  cases r4 with
                  | false =>
                    go_wp2
                    go_meet
                    case rel => exact ⟨rfl, T4.out⟩
                  | true =>
                    have n10 : Y4.cell? ⟨y1, 0, none⟩ = some (.int .i64 d1) := kcells_of ((T4.out.block _ (lt_of_block H1.out)).trans H1.out) 0
                    have n11 : Y4.cell? ⟨y1, 1, none⟩ = some (.string s1) := kcells_of ((T4.out.block _ (lt_of_block H1.out)).trans H1.out) 1
                    have hl1 := lt_of_block ((T4.out.block _ (lt_of_block H1.out)).trans H1.out)
                    have nj0 : Y4.cell? ⟨yj, 0, none⟩ = some (.int .i64 dj) := kcells_of ((T4.out.block _ (lt_of_block Hj.out)).trans Hj.out) 0
                    have nj1 : Y4.cell? ⟨yj, 1, none⟩ = some (.string sj) := kcells_of ((T4.out.block _ (lt_of_block Hj.out)).trans Hj.out) 1
                    have hlj := lt_of_block ((T4.out.block _ (lt_of_block Hj.out)).trans Hj.out)
                    go_wp2_with fail
                    refine (Sub_any (HT2.out.below ((X.out.trans (T4.out.mono X.out.size)).mono HT2.out.hB)) (by exact hz1) (by exact hzj)).mono ?_
                    rintro e Y5 ⟨r5, rfl, hr5, hb5⟩
                    have T5 := Lib.hid (T4.out.trans (hb5.mono T4.out.size))
                    have R5 := Lib.hid hr5
                    clear hr5 hb5
                    obtain rfl : r5 = true := R5.out.2 (sub_trans HG.out (R3.out.1 (by first | rfl | trivial)) (R4.out.1 (by first | rfl | trivial)))
                    go_wp2
                    go_meet
                    case rel => exact ⟨rfl, T5.out⟩
              obtain ⟨rfl, hb⟩ := hcut
              obtain ⟨V16x, hV⟩ : ∃ x, x = wc := ⟨_, rfl⟩
              subst hV
              replace X := Lib.hid (X.out.trans (hb.mono X.out.size))
              replace Z := Lib.hid (Z.out.trans (hb.mono Z.out.size))
              replace Z2 := Lib.hid (Z2.out.trans (hb.mono Z2.out.size))
              replace H1 := Lib.hid ((hb.block _ (lt_of_block H1.out)).trans H1.out)
              replace Hk := Lib.hid ((hb.block _ (lt_of_block Hk.out)).trans Hk.out)
              replace Hx := Lib.hid ((hb.block _ (lt_of_block Hx.out)).trans Hx.out)
              replace Hz := Lib.hid ((hb.block _ (lt_of_block Hz.out)).trans Hz.out)
              replace Hj := Lib.hid ((hb.block _ (lt_of_block Hj.out)).trans Hj.out)
              replace Hv := Lib.hid ((hb.block _ (lt_of_block Hv.out)).trans Hv.out)
              replace Ht := Lib.hid ((hb.block _ (lt_of_block Ht.out)).trans Ht.out)
              replace Hr := Lib.hid ((hb.block _ (lt_of_block Hr.out)).trans Hr.out)
              clear hb
              go_upto_region 36 with fail
              go_cut [28, 29] (fun va vb wx => ∃ y, ∃ b : Bool, va = .pointer (some ⟨y, 0, none⟩) ∧ vb = .bool b ∧ FndBox ds sj.data.toList y b wx ∧ Below V16x.heap.size V16x wx)
              case first => as_aux_lemma =>
                have nj0 : V16x.cell? ⟨yj, 0, none⟩ = some (.int .i64 dj) := kcells_of Hj.out 0
                have nj1 : V16x.cell? ⟨yj, 1, none⟩ = some (.string sj) := kcells_of Hj.out 1
                have hlj := lt_of_block Hj.out
                go_wp2_with fail
                refine (Find_any (HT2.out.below (X.out.mono HT2.out.hB)) sj hzj).mono ?_
                rintro e x1 ⟨ha, b1⟩
                have B1 := Lib.hid b1
                rcases ha with ⟨h0, rfl⟩ | ⟨i2, c2, k2, ifn2, hi2, hc2, hnm2, hifr2, rfl⟩
                · have H0 := Lib.hid h0
                  unfold zeroCls
                  clear h0 b1
                  go_wp2
                  go_meet
                  case rel => exact ⟨_, false, rfl, rfl, FndBox.no (hheap_new _ _), B1.out.alloc B1.out.size _⟩
                · have H0 := Lib.hid hi2
                  have H1 := Lib.hid hc2
                  obtain ⟨ai2, ci2, rfl, _, _⟩ := hifr2.length
                  clear hnm2 hifr2 b1 hi2 hc2
                  go_wp2
                  go_meet
                  case rel => exact ⟨_, true, rfl, rfl, FndBox.yes (hheap_new _ _) H0.out H1.out, B1.out.alloc B1.out.size _⟩
              obtain ⟨yk3, bk3, rfl, rfl, hfb, hb⟩ := hcut
              obtain ⟨n5, n6, vi, b3, b4, b5, i6, hyb, hbb⟩ := hfb
              have Fk3 := Lib.hid hbb
              have HY := Lib.hid hyb
              clear hbb hyb
              obtain ⟨V17x, hV⟩ : ∃ x, x = wc := ⟨_, rfl⟩
              subst hV
              replace X := Lib.hid (X.out.trans (hb.mono X.out.size))
              replace Z := Lib.hid (Z.out.trans (hb.mono Z.out.size))
              replace Z2 := Lib.hid (Z2.out.trans (hb.mono Z2.out.size))
              replace H1 := Lib.hid ((hb.block _ (lt_of_block H1.out)).trans H1.out)
              replace Hk := Lib.hid ((hb.block _ (lt_of_block Hk.out)).trans Hk.out)
              replace Hx := Lib.hid ((hb.block _ (lt_of_block Hx.out)).trans Hx.out)
              replace Hz := Lib.hid ((hb.block _ (lt_of_block Hz.out)).trans Hz.out)
              replace Hj := Lib.hid ((hb.block _ (lt_of_block Hj.out)).trans Hj.out)
              replace Hv := Lib.hid ((hb.block _ (lt_of_block Hv.out)).trans Hv.out)
              replace Ht := Lib.hid ((hb.block _ (lt_of_block Ht.out)).trans Ht.out)
              replace Hr := Lib.hid ((hb.block _ (lt_of_block Hr.out)).trans Hr.out)
              clear hb
              go_upto_region 37 with fail
              go_cut [243] (fun v wx => v = .bool false ∧ Below V17x.heap.size V17x wx)
              case first => as_aux_lemma =>
                cases okx with
                | false =>
                  go_wp2
                  go_meet
                  case rel => exact ⟨rfl, Below.refl _ _⟩
                | true =>
                  cases bk3 with
                  | false =>
                    go_wp2
                    go_meet
                    case rel => exact ⟨rfl, Below.refl _ _⟩
                  | true =>
                    obtain ⟨kz, hkz, hjz⟩ := Fk3.out (by first | rfl | trivial)
                    have KZ := Lib.hid (And.intro hkz hjz)
                    clear hkz hjz
                    have n10 : V17x.cell? ⟨y1, 0, none⟩ = some (.int .i64 d1) := kcells_of H1.out 0
                    have n11 : V17x.cell? ⟨y1, 1, none⟩ = some (.string s1) := kcells_of H1.out 1
                    have hl1 := lt_of_block H1.out
                    have nk0 : V17x.cell? ⟨yk, 0, none⟩ = some (.int .i64 dk) := kcells_of Hk.out 0
                    have nk1 : V17x.cell? ⟨yk, 1, none⟩ = some (.string sk) := kcells_of Hk.out 1
                    have hlk := lt_of_block Hk.out
                    have nj0 : V17x.cell? ⟨yj, 0, none⟩ = some (.int .i64 dj) := kcells_of Hj.out 0
                    have nj1 : V17x.cell? ⟨yj, 1, none⟩ = some (.string sj) := kcells_of Hj.out 1
                    have hlj := lt_of_block Hj.out
                    have nx0 : V17x.cell? ⟨yx, 0, none⟩ = some (.int .i64 dx) := kcells_of Hx.out 0
                    have nx1 : V17x.cell? ⟨yx, 1, none⟩ = some (.string sx) := kcells_of Hx.out 1
                    have hlx := lt_of_block Hx.out
                    have n28 : V17x.cell? ⟨yk3, 3, none⟩ = some (.bool b3) := kcells_of HY.out 3
                    have hl28 := lt_of_block HY.out
                    cases b3 with
                    | true =>
                      go_wp2
                      go_meet
                      case rel => exact ⟨rfl, Below.refl _ _⟩
                    | false =>
                      rcases Classical.em (¬ dj = 0) with hdj | hdj
                      · have qj : (dj == 0) = false := by rw [beq_eq_false_iff_ne]; exact hdj
                        clear hdj
                        go_wp2
                        go_meet
                        case rel => exact ⟨rfl, Below.refl _ _⟩
                      · have hdj := Classical.not_not.1 hdj
                        have qj : (dj == 0) = true := by rw [beq_iff_eq]; exact hdj
                        have Dj := Lib.hid hdj
                        clear hdj
                        rcases Classical.em (¬ d1 = 0) with hd1 | hd1
                        · have q1 : (d1 == 0) = false := by rw [beq_eq_false_iff_ne]; exact hd1
                          clear hd1
                          go_wp2
                          go_meet
                          case rel => exact ⟨rfl, Below.refl _ _⟩
                        · have hd1 := Classical.not_not.1 hd1
                          have q1 : (d1 == 0) = true := by rw [beq_iff_eq]; exact hd1
                          have D1 := Lib.hid hd1
                          clear hd1
                          rcases Classical.em (¬ dk = 0) with hdk | hdk
                          · have qk : (dk == 0) = false := by rw [beq_eq_false_iff_ne]; exact hdk
                            clear hdk
                            go_wp2
                            go_meet
                            case rel => exact ⟨rfl, Below.refl _ _⟩
                          · have hdk := Classical.not_not.1 hdk
                            have qk : (dk == 0) = true := by rw [beq_iff_eq]; exact hdk
                            have Dk := Lib.hid hdk
                            clear hdk
                            go_wp2_with fail
                            refine (classes_any (HT2.out.below (X.out.mono HT2.out.hB)) (by exact hz1) (by exact hzk)).mono ?_
                            rintro e Y6 ⟨⟨r6, rfl⟩, hb6⟩
                            have T6 := Lib.hid hb6
                            clear hb6 n10 n11 hl1 nk0 nk1 hlk nj0 nj1 hlj nx0 nx1 hlx n28 hl28
                            cases r6 with
                            | false =>
                              go_wp2
                              go_meet
                              case rel => exact ⟨rfl, T6.out⟩
                            | true =>
                              have n10 : Y6.cell? ⟨y1, 0, none⟩ = some (.int .i64 d1) := kcells_of ((T6.out.block _ (lt_of_block H1.out)).trans H1.out) 0
                              have n11 : Y6.cell? ⟨y1, 1, none⟩ = some (.string s1) := kcells_of ((T6.out.block _ (lt_of_block H1.out)).trans H1.out) 1
                              have hl1 := lt_of_block ((T6.out.block _ (lt_of_block H1.out)).trans H1.out)
                              have nk0 : Y6.cell? ⟨yk, 0, none⟩ = some (.int .i64 dk) := kcells_of ((T6.out.block _ (lt_of_block Hk.out)).trans Hk.out) 0
                              have nk1 : Y6.cell? ⟨yk, 1, none⟩ = some (.string sk) := kcells_of ((T6.out.block _ (lt_of_block Hk.out)).trans Hk.out) 1
                              have hlk := lt_of_block ((T6.out.block _ (lt_of_block Hk.out)).trans Hk.out)
                              have nj0 : Y6.cell? ⟨yj, 0, none⟩ = some (.int .i64 dj) := kcells_of ((T6.out.block _ (lt_of_block Hj.out)).trans Hj.out) 0
                              have nj1 : Y6.cell? ⟨yj, 1, none⟩ = some (.string sj) := kcells_of ((T6.out.block _ (lt_of_block Hj.out)).trans Hj.out) 1
                              have hlj := lt_of_block ((T6.out.block _ (lt_of_block Hj.out)).trans Hj.out)
                              have nx0 : Y6.cell? ⟨yx, 0, none⟩ = some (.int .i64 dx) := kcells_of ((T6.out.block _ (lt_of_block Hx.out)).trans Hx.out) 0
                              have nx1 : Y6.cell? ⟨yx, 1, none⟩ = some (.string sx) := kcells_of ((T6.out.block _ (lt_of_block Hx.out)).trans Hx.out) 1
                              have hlx := lt_of_block ((T6.out.block _ (lt_of_block Hx.out)).trans Hx.out)
                              go_wp2_with fail
                              refine (Sub_any (HT2.out.below ((X.out.trans (T6.out.mono X.out.size)).mono HT2.out.hB)) (by exact hz1) (by exact hzj)).mono ?_
                              rintro e Y7 ⟨r7, rfl, hr7, hb7⟩
                              have T7 := Lib.hid (T6.out.trans (hb7.mono T6.out.size))
                              have R7 := Lib.hid hr7
                              clear hr7 hb7
                              clear n10 n11 hl1 nk0 nk1 hlk nj0 nj1 hlj nx0 nx1 hlx
                              cases r7 with
                              | false =>
                                go_wp2
                                go_meet
                                case rel => exact ⟨rfl, T7.out⟩
                              | true =>
                                have n10 : Y7.cell? ⟨y1, 0, none⟩ = some (.int .i64 d1) := kcells_of ((T7.out.block _ (lt_of_block H1.out)).trans H1.out) 0
                                have n11 : Y7.cell? ⟨y1, 1, none⟩ = some (.string s1) := kcells_of ((T7.out.block _ (lt_of_block H1.out)).trans H1.out) 1
                                have hl1 := lt_of_block ((T7.out.block _ (lt_of_block H1.out)).trans H1.out)
                                have nk0 : Y7.cell? ⟨yk, 0, none⟩ = some (.int .i64 dk) := kcells_of ((T7.out.block _ (lt_of_block Hk.out)).trans Hk.out) 0
                                have nk1 : Y7.cell? ⟨yk, 1, none⟩ = some (.string sk) := kcells_of ((T7.out.block _ (lt_of_block Hk.out)).trans Hk.out) 1
                                have hlk := lt_of_block ((T7.out.block _ (lt_of_block Hk.out)).trans Hk.out)
                                have nj0 : Y7.cell? ⟨yj, 0, none⟩ = some (.int .i64 dj) := kcells_of ((T7.out.block _ (lt_of_block Hj.out)).trans Hj.out) 0
                                have nj1 : Y7.cell? ⟨yj, 1, none⟩ = some (.string sj) := kcells_of ((T7.out.block _ (lt_of_block Hj.out)).trans Hj.out) 1
                                have hlj := lt_of_block ((T7.out.block _ (lt_of_block Hj.out)).trans Hj.out)
                                have nx0 : Y7.cell? ⟨yx, 0, none⟩ = some (.int .i64 dx) := kcells_of ((T7.out.block _ (lt_of_block Hx.out)).trans Hx.out) 0
                                have nx1 : Y7.cell? ⟨yx, 1, none⟩ = some (.string sx) := kcells_of ((T7.out.block _ (lt_of_block Hx.out)).trans Hx.out) 1
                                have hlx := lt_of_block ((T7.out.block _ (lt_of_block Hx.out)).trans Hx.out)
                                go_wp2_with fail
                                refine (Sub_any (HT2.out.below ((X.out.trans (T7.out.mono X.out.size)).mono HT2.out.hB)) (by exact hzk) (by exact hzj)).mono ?_
                                rintro e Y8 ⟨r8, rfl, hr8, hb8⟩
                                have T8 := Lib.hid (T7.out.trans (hb8.mono T7.out.size))
                                have R8 := Lib.hid hr8
                                clear hr8 hb8
                                clear n10 n11 hl1 nk0 nk1 hlk nj0 nj1 hlj nx0 nx1 hlx
                                cases r8 with
                                | false =>
                                  go_wp2
                                  go_meet
                                  case rel => exact ⟨rfl, T8.out⟩
                                | true =>
                                  have nj0 : Y8.cell? ⟨yj, 0, none⟩ = some (.int .i64 dj) := kcells_of ((T8.out.block _ (lt_of_block Hj.out)).trans Hj.out) 0
                                  have nj1 : Y8.cell? ⟨yj, 1, none⟩ = some (.string sj) := kcells_of ((T8.out.block _ (lt_of_block Hj.out)).trans Hj.out) 1
                                  have hlj := lt_of_block ((T8.out.block _ (lt_of_block Hj.out)).trans Hj.out)
                                  have nx0 : Y8.cell? ⟨yx, 0, none⟩ = some (.int .i64 dx) := kcells_of ((T8.out.block _ (lt_of_block Hx.out)).trans Hx.out) 0
                                  have nx1 : Y8.cell? ⟨yx, 1, none⟩ = some (.string sx) := kcells_of ((T8.out.block _ (lt_of_block Hx.out)).trans Hx.out) 1
                                  have hlx := lt_of_block ((T8.out.block _ (lt_of_block Hx.out)).trans Hx.out)
                                  go_wp2_with fail
                                  refine (Sub_any (HT2.out.below ((X.out.trans (T8.out.mono X.out.size)).mono HT2.out.hB)) (by exact hzx) (by exact hzj)).mono ?_
                                  rintro e Y9 ⟨r9, rfl, hr9, hb9⟩
                                  have T9 := Lib.hid (T8.out.trans (hb9.mono T8.out.size))
                                  have R9 := Lib.hid hr9
                                  clear hr9 hb9
                                  obtain rfl : r9 = true := R9.out.2 (Lx.out.least HG.out D1.out Dk.out Dj.out KZ.out.1 KZ.out.2 (R7.out.1 (by first | rfl | trivial)) (R8.out.1 (by first | rfl | trivial)))
                                  go_wp2
                                  go_meet
                                  case rel => exact ⟨rfl, T9.out⟩
              obtain ⟨rfl, hb⟩ := hcut
              obtain ⟨V18x, hV⟩ : ∃ x, x = wc := ⟨_, rfl⟩
              subst hV
              replace X := Lib.hid (X.out.trans (hb.mono X.out.size))
              replace Z := Lib.hid (Z.out.trans (hb.mono Z.out.size))
              replace Z2 := Lib.hid (Z2.out.trans (hb.mono Z2.out.size))
              replace H1 := Lib.hid ((hb.block _ (lt_of_block H1.out)).trans H1.out)
              replace Hk := Lib.hid ((hb.block _ (lt_of_block Hk.out)).trans Hk.out)
              replace Hx := Lib.hid ((hb.block _ (lt_of_block Hx.out)).trans Hx.out)
              replace Hz := Lib.hid ((hb.block _ (lt_of_block Hz.out)).trans Hz.out)
              replace Hj := Lib.hid ((hb.block _ (lt_of_block Hj.out)).trans Hj.out)
              replace Hv := Lib.hid ((hb.block _ (lt_of_block Hv.out)).trans Hv.out)
              replace Ht := Lib.hid ((hb.block _ (lt_of_block Ht.out)).trans Ht.out)
              replace Hr := Lib.hid ((hb.block _ (lt_of_block Hr.out)).trans Hr.out)
              replace HY := Lib.hid ((hb.block _ (lt_of_block HY.out)).trans HY.out)
              clear hb
              go_wp2
              go_roundg (g3 - 1)
              case measure => exact hgxj
              case rel => exact ⟨j + 1, by go_num, by omega, Z2.out⟩
            · have hjq2 : q ≤ j := by omega
              clear hjq
              go_wp2
              go_roundg (g2 - 1)
              case measure => exact hgxk
              case rel => exact ⟨k + 1, by go_num, by omega, Z.out⟩
        · have hkq2 : q ≤ k := by omega
          clear hkq
          go_wp2
          go_roundg (g1 - 1)
          case measure => exact hg2
          case rel => exact ⟨i + 1, by go_num, by omega, X.out⟩
    · have hiq2 : q ≤ i := by omega
      have BZ := Lib.hid (BW.out.trans (X.out.mono BW.out.size))
      clear hiq
      go_wp2
      go_ret
      exact ⟨rfl, BZ.out⟩
end Go.Proofs.YtmaknddlgppinaaGreatDoor
