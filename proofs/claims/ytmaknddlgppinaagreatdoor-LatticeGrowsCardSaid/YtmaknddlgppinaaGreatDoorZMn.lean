/-
  WALK of law 7's made; what joins of lists are.
-/
import Derived.Test.YtmaknddlgppinaaGreatDoorZ46
set_option linter.unusedVariables false
set_option linter.unusedSimpArgs false
namespace Go.Proofs.YtmaknddlgppinaaGreatDoor
open Go.RowKit

theorem KQ.kn_inj {p q : KQ} (h : p.kn = q.kn) : p = q := by
  obtain ⟨a, b, c, d⟩ := p
  obtain ⟨a', b', c', d'⟩ := q
  obtain ⟨rfl, ⟨rfl, rfl⟩, rfl⟩ := (KN_eq a b d a' b' d' c c').1 h
  rfl
/-- Knowns that may be, with short names. -/
def OkL (l : List KQ) : Prop := ∀ q ∈ l, OkK cs7 VT q.kn ∧ q.2.2.1.size ≤ 1000000
theorem OkL.small {l : List KQ} (h : OkL l) : Small l := fun q hq => (h q hq).2
theorem okl17 {l : List KQ} (h : ∀ q ∈ l, q ∈ kq17) : OkL l := fun ⟨_, _, _, _⟩ hq => ⟨ok17 (h _ hq), sz17 (h _ hq)⟩
theorem JoinL.at {la lb l : List KQ} (h : JoinL cs7 la lb l) {i : Nat} {q : KQ} (hq : l[i]? = some q) : ∃ qa qb, la[i]? = some qa ∧ lb[i]? = some qb ∧ q.kn = joinK cs7 VT qa.kn qb.kn ∧ q.2.2.1.size ≤ 1000000 := by
  have hl := (List.getElem?_eq_some_iff.1 hq).1
  have hlen := h.1
  have ha : la[i]? = some la[i] := List.getElem?_eq_getElem (by omega)
  have hb : lb[i]? = some lb[i] := List.getElem?_eq_getElem (by omega)
  obtain ⟨q', h1, h2, h3⟩ := h.2 i _ _ ha hb
  cases hq.symm.trans h1
  exact ⟨_, _, ha, hb, h2, h3⟩
theorem JoinL.ok {la lb l : List KQ} (h : JoinL cs7 la lb l) (ha : OkL la) (hb : OkL lb) : OkL l := by
  intro q hq
  obtain ⟨i, hi, rfl⟩ := List.getElem_of_mem hq
  obtain ⟨qa, qb, h1, h2, h3, h4⟩ := h.at (List.getElem?_eq_getElem hi)
  refine ⟨?_, h4⟩
  rw [h3]
  exact joinK_ok good7 hV7 (ha _ (List.mem_of_getElem? h1)).1 (hb _ (List.mem_of_getElem? h2)).1
/-- Lists that are the same at each place. -/
theorem same_kn {l l' : List KQ} (hl : l.length = l'.length) (h : ∀ (i : Nat) (q q' : KQ), l[i]? = some q → l'[i]? = some q' → q.kn = q'.kn) : l = l' :=
  lists_eq rfl hl.symm fun k hk => by
    have h1 : l[k]? = some l[k] := List.getElem?_eq_getElem hk
    have h2 : l'[k]? = some (l'[k]'(by omega)) := List.getElem?_eq_getElem (by omega)
    rw [h1, h2, KQ.kn_inj (h k _ _ h1 h2)]
theorem JoinL.comm {la lb l l' : List KQ} (h : JoinL cs7 la lb l) (h' : JoinL cs7 lb la l') (ha : OkL la) (hb : OkL lb) : l = l' := by
  refine same_kn (by rw [h.1, h'.1, Nat.min_comm]) fun i q q' hq hq' => ?_
  obtain ⟨qa, qb, a1, b1, e1, _⟩ := h.at hq
  obtain ⟨qb', qa', b2, a2, e2, _⟩ := h'.at hq'
  cases a1.symm.trans a2
  cases b1.symm.trans b2
  rw [e1, e2]
  exact joinK_comm good7 hV7 (ha _ (List.mem_of_getElem? a1)).1 (hb _ (List.mem_of_getElem? b1)).1
theorem JoinL.self {la l : List KQ} (h : JoinL cs7 la la l) (ha : OkL la) : l = la := by
  refine same_kn (by rw [h.1, Nat.min_self]) fun i q q' hq hq' => ?_
  obtain ⟨qa, qb, a1, b1, e1, _⟩ := h.at hq
  cases a1.symm.trans b1
  cases a1.symm.trans hq'
  rw [e1]
  exact joinK_self good7 hV7 (ha _ (List.mem_of_getElem? a1)).1
theorem JoinL.assoc {la lb lc x w v u : List KQ} (hx : JoinL cs7 la lb x) (hw : JoinL cs7 x lc w) (hv : JoinL cs7 lb lc v) (hu : JoinL cs7 la v u) (ha : OkL la) (hb : OkL lb) (hc : OkL lc) : w = u := by
  refine same_kn (by rw [hw.1, hu.1, hx.1, hv.1]; omega) fun i q q' hq hq' => ?_
  obtain ⟨qx, qc, x1, c1, e1, _⟩ := hw.at hq
  obtain ⟨qa, qv, a1, v1, e2, _⟩ := hu.at hq'
  obtain ⟨qa', qb, a2, b1, e3, _⟩ := hx.at x1
  obtain ⟨qb', qc', b2, c2, e4, _⟩ := hv.at v1
  cases a1.symm.trans a2
  cases b1.symm.trans b2
  cases c1.symm.trans c2
  rw [e1, e2, e3, e4]
  exact joinK_assoc good7 hV7 (ha _ (List.mem_of_getElem? a1)).1 (hb _ (List.mem_of_getElem? b1)).1 (hc _ (List.mem_of_getElem? c1)).1
theorem BelowL.join {la lb lc x : List KQ} (h : BelowL cs7 lc la) (hx : JoinL cs7 la lb x) (hl : la.length = lb.length) (ha : OkL la) (hb : OkL lb) (hc : OkL lc) : BelowL cs7 lc x := by
  refine ⟨by rw [hx.1, ← hl, Nat.min_self]; exact h.1, fun i qc qx h1 h2 => ?_⟩
  obtain ⟨qa, qb, a1, b1, e1, _⟩ := hx.at h2
  have oa := (ha _ (List.mem_of_getElem? a1)).1
  have ob := (hb _ (List.mem_of_getElem? b1)).1
  rw [e1]
  exact belowK_trans good7 hV7 (hc _ (List.mem_of_getElem? h1)).1 oa (joinK_ok good7 hV7 oa ob) (h.2 i qc qa h1 a1) (belowK_join good7 hV7 oa ob).1
theorem JoinL.left {la lb x : List KQ} (hx : JoinL cs7 la lb x) (hl : la.length = lb.length) (ha : OkL la) (hb : OkL lb) : BelowL cs7 la x := by
  refine ⟨by rw [hx.1, ← hl, Nat.min_self]; exact Nat.le_refl _, fun i qa qx h1 h2 => ?_⟩
  obtain ⟨qa', qb, a1, b1, e1, _⟩ := hx.at h2
  cases h1.symm.trans a1
  rw [e1]
  exact (belowK_join good7 hV7 (ha _ (List.mem_of_getElem? a1)).1 (hb _ (List.mem_of_getElem? b1)).1).1
theorem JoinL.right {la lb x : List KQ} (hx : JoinL cs7 la lb x) (hl : la.length = lb.length) (ha : OkL la) (hb : OkL lb) : BelowL cs7 lb x := by
  refine ⟨by rw [hx.1, ← hl, Nat.min_self]; omega, fun i qb qx h1 h2 => ?_⟩
  obtain ⟨qa', qb', a1, b1, e1, _⟩ := hx.at h2
  cases h1.symm.trans b1
  rw [e1]
  exact (belowK_join good7 hV7 (ha _ (List.mem_of_getElem? a1)).1 (hb _ (List.mem_of_getElem? b1)).1).2
/-- A state that stands. -/
structure SV (w : World) (x y : Value) (la sa : List KQ) : Prop where
  loc : KRow w.heap.size w x la
  stk : KRow w.heap.size w y sa
theorem SV.next {w w' : World} {x y : Value} {la sa : List KQ} (h : SV w x y la sa) (hb : Below w.heap.size w w') : SV w' x y la sa :=
  ⟨(h.loc.below hb).more hb.size, (h.stk.below hb).more hb.size⟩
/-- A state that is being made: i knowns stand in it. -/
structure MB (w : World) (h i : Nat) (x y : Value) (la sa : List KQ) (wx : World) : Prop where
  box : wx.heap[w.heap.size + 1]? = some (.cells #[x, y] 75 (0, 0))
  res : wx.heap[w.heap.size]? = some (.cells #[.slice none 0 0, .slice none 0 0] 75 (0, 0))
  ox : wx.ownsRow (w.heap.size + 2) 64 4 x la.length (kcells la)
  oy : wx.ownsRow (w.heap.size + 2) 64 4 y sa.length (kcells sa)
  sep : HSep x y
  ls : sa.length = min i h
  ll : la.length = i - h
  inx : ∀ q ∈ la, q ∈ kq17
  iny : ∀ q ∈ sa, q ∈ kq17
  below : Below w.heap.size w wx
theorem HSep.turn {v u : Value} (h : HSep v u) : HSep u v := fun g hg hv => h g hv hg
/-- A box of another type than the row that grew. -/
theorem box_grown {w w' : World} {b base n size : Nat} {cs : Array Value} {t e : TypeId} {v : Value} {xs : List Value} (h : w.heap[b]? = some (.cells cs t (0, 0))) (own : w.ownsRow base e size v n xs) (hg : w.grownBy w' v.ownBlock) (ht : t ≠ e) : w'.heap[b]? = some (.cells cs t (0, 0)) :=
  (hg.block b (lt_of_block h) (fun e => hown_ne own h ht e.symm)).trans h
theorem und60 : Tryz.prog.underlying 60 = some (.slice 64) := by kernel_rfl
theorem results56 : Tryz.f56.results = #[ResultVar.cell 6 75] := by kernel_rfl
set_option maxRecDepth 1000000 in
set_option maxHeartbeats 6400000 in
theorem made_any {B : Nat} (h lo : Nat) (l : List Int) (v : Value) (w : World) (hi : IRow B w v l) (hB : B ≤ w.heap.size) (hl : ∀ z ∈ l, B64 z) (hh : h ≤ 1000) (hlo : lo ≤ 1000) :
    Calls Tryz.prog 56 #[.int .i64 (h : Int), .int .i64 (lo : Int), v] w fun e w' => ∃ x y la sa, e = .returned (.agg #[x, y]) ∧ SV w' x y la sa ∧ sa.length = h ∧ la.length = lo ∧ (∀ q ∈ la, q ∈ kq17) ∧ (∀ q ∈ sa, q ∈ kq17) ∧ Below w.heap.size w w' := by
  obtain ⟨Av, cv, rfl, _, hmv, _⟩ := id hi
  have HI := Lib.hid hi
  have HL := Lib.hid hl
  have HB := Lib.hid hB
  have hM : ((l.length : Nat) : Int) ≤ 9223372036854775807 := by unfold maxLen at hmv; omega
  obtain ⟨i64, hi64, hz64, hs64, hy64⟩ := info64
  have k1 : IntKind.i64.wrap ((h : Int) + lo) = ((h + lo : Nat) : Int) := by rw [IntWalk.i64_in _ (by omega)]; omega
  clear hi hl hB hmv
  have b0 : ((w.alloc (.cells #[.slice none 0 0, .slice none 0 0] 75)).alloc (.cells #[.slice none 0 0, .slice none 0 0] 75)).heap[w.heap.size]? = _ := hheap_alloc_lt (hheap_new w _)
  have b1 : ((w.alloc (.cells #[.slice none 0 0, .slice none 0 0] 75)).alloc (.cells #[.slice none 0 0, .slice none 0 0] 75)).heap[w.heap.size + 1]? = some (.cells #[.slice none 0 0, .slice none 0 0] 75 (0, 0)) := hheap_at _ _ _ (by simp)
  have T0 := Lib.hid (show MB w h 0 (.slice none 0 0) (.slice none 0 0) [] [] _ from ⟨b1, b0, World.ownsRow_nil _ _ _ _, World.ownsRow_nil _ _ _ _, HSep.nil _, by simp, by simp, fun q hq => (by cases hq), fun q hq => (by cases hq), ((Below.refl _ _).alloc (Nat.le_refl _) _).alloc (by simp) _⟩)
  clear b0 b1
  go_enter Tryz.func56, Tryz.ntmps56
  go_wp2
  go_loopg [8] (h + lo) (fun g iv wx => ∃ (i : Nat) (x y : Value) (la sa : List KQ), iv = .int .i64 i ∧ i + g = h + lo ∧ MB w h i x y la sa wx)
  case atStart => exact ⟨0, _, _, _, _, rfl, by omega, T0.out⟩
  case round =>
    obtain ⟨i, x, y, la, sa, rfl, hig, hmb⟩ := hrel
    obtain ⟨V0, hV⟩ : ∃ x, x = wr := ⟨_, rfl⟩
    subst hV
    have M := Lib.hid hmb
    clear hmb T0
    by_cases hiq : i < h + lo
    · have hgx : gk - 1 < gk := by omega
      have e1 : decide ((i : Int) < ((h + lo : Nat) : Int)) = true := decide_eq_true (by omega)
      have wi : IntKind.i64.wrap ((i : Int) + 1) = ((i + 1 : Nat) : Int) := by rw [IntWalk.i64_in _ (by omega)]; omega
      go_upto_region 5 with fail
      go_cut [9] (fun va wx => ∃ p, va = .pointer (some ⟨p, 0, none⟩) ∧ V0.heap.size ≤ p ∧ wx.heap[p]? = some (.cells #[.int .i64 1, .int .i64 0, .string ⟨#[]⟩, .int .i64 0] 64 (0, 0)) ∧ Below V0.heap.size V0 wx)
      case first =>
        go_wp2
        go_meet
        case rel => exact ⟨_, rfl, Nat.le_refl _, hheap_new _ _, (Below.refl _ _).alloc (Nat.le_refl _) _⟩
      obtain ⟨p, rfl, hp, hk, hb⟩ := hcut
      obtain ⟨V1, hV⟩ : ∃ x, x = wc := ⟨_, rfl⟩
      subst hV
      have KB := Lib.hid hk
      have VB := Lib.hid hb
      clear hk hb
      go_upto_if 22 with fail
      go_cut [9] (fun va wx => ∃ k d n s, va = .pointer (some ⟨p, 0, none⟩) ∧ (k, d, s, n) ∈ kq17 ∧ wx.heap[p]? = some (.cells #[.int .i64 k, .int .i64 d, .string s, .int .i64 n] 64 (0, 0)) ∧ Below V0.heap.size V0 wx)
      case first =>
        by_cases hil : i < l.length
        · have e3 : decide ((i : Int) < ((l.length : Nat) : Int)) = true := decide_eq_true (by omega)
          obtain ⟨z, hz⟩ : ∃ z, l[i]? = some z := ⟨_, List.getElem?_eq_getElem hil⟩
          obtain ⟨bt, ot, rfl, hbt, ce⟩ := IRow.at_ HI.out hz
          have hBV : B ≤ V0.heap.size := Nat.le_trans HB.out M.out.below.size
          have c0 := (VB.out.cell (p := ⟨bt, ot + i, none⟩) (Nat.lt_of_lt_of_le hbt hBV)).trans ((M.out.below.cell (p := ⟨bt, ot + i, none⟩) (Nat.lt_of_lt_of_le hbt HB.out)).trans ce)
          have HZ := Lib.hid (HL.out z (List.mem_of_getElem? hz))
          clear hz ce
          go_wp2_with fail
          refine (known_q z HZ.out _).mono ?_
          rintro e w9 ⟨k, d, n, s, hm, rfl, hb⟩
          have KB9 := Lib.hid ((hb.block _ (lt_of_block KB.out)).trans KB.out)
          have VB9 := Lib.hid (Below.hlink VB.out hb)
          have HM := Lib.hid hm
          clear hb hm c0
          have n0 := kcells_of KB9.out 0
          have n1 := kcells_of KB9.out 1
          have n2 := kcells_of KB9.out 2
          have n3 := kcells_of KB9.out 3
          have nf := kfree_of KB9.out
          have hlp := lt_of_block KB9.out
          simp only [List.getElem?_toArray, List.getElem?_cons_succ, List.getElem?_cons_zero] at n0 n1 n2 n3
          go_wp2
          go_meet
          case rel => exact ⟨k, d, n, s, rfl, HM.out, set4 KB9.out _ _ _ _, (((VB9.out.setCell (p := ⟨p, 0, none⟩) hp _).setCell (p := ⟨p, 1, none⟩) hp _).setCell (p := ⟨p, 2, none⟩) hp _).setCell (p := ⟨p, 3, none⟩) hp _⟩
        · have e3 : decide ((i : Int) < ((l.length : Nat) : Int)) = false := decide_eq_false (by omega)
          go_wp2
          go_meet
          case rel => exact ⟨1, 0, 0, ⟨#[]⟩, rfl, by unfold kq17; exact .tail _ (.head _), KB.out, VB.out⟩
      obtain ⟨k, d, n, s, rfl, hm, hk, hb⟩ := hcut
      obtain ⟨V2, hV⟩ : ∃ x, x = wc := ⟨_, rfl⟩
      subst hV
      clear KB VB
      have HM := Lib.hid hm
      have n0 := kcells_of hk 0
      have n1 := kcells_of hk 1
      have n2 := kcells_of hk 2
      have n3 := kcells_of hk 3
      simp only [List.getElem?_toArray, List.getElem?_cons_succ, List.getElem?_cons_zero] at n0 n1 n2 n3
      have hlp := lt_of_block hk
      have BX := Lib.hid ((hb.block _ (lt_of_block M.out.box)).trans M.out.box)
      have RS := Lib.hid ((hb.block _ (lt_of_block M.out.res)).trans M.out.res)
      have OX := Lib.hid (hown_below M.out.ox hb)
      have OY := Lib.hid (hown_below M.out.oy hb)
      have BE := Lib.hid (Below.hlink M.out.below hb)
      have hz0 : w.heap.size + 2 ≤ V2.heap.size := by have := lt_of_block BX.out; omega
      have s0 := kcells_of BX.out 0
      have s1 := kcells_of BX.out 1
      have sf := kfree_of BX.out
      have hlb := lt_of_block BX.out
      simp only [List.getElem?_toArray, List.getElem?_cons_succ, List.getElem?_cons_zero] at s0 s1
      have hls1 : sa.length ≤ 1000 := by have := M.out.ls; omega
      have hll1 : la.length ≤ 1000 := by have := M.out.ll; omega
      clear hk hb hm
      by_cases hih : i < h
      · have e4 : decide ((i : Int) < (h : Int)) = true := decide_eq_true (by omega)
        obtain ⟨qo, co, rfl⟩ := hown_form OY.out
        go_wp2_with (at_builtin; refine hwpList_append_own2 rfl (.tmp 32) (.tmp 34) 60 rfl (w.heap.size + 2) 64 i64 (.agg #[.int .i64 0, .int .i64 0, .string ⟨#[]⟩, .int .i64 0]) 4 40 und60 hi64 hz64 hs64 hy64 rfl (by decide) (.slice qo sa.length co) sa.length _ rfl (World.ownsRow.alloc OY.out _) ⟨_, 0, none⟩ 1 1 [.int .i64 k, .int .i64 d, .string s, .int .i64 n] rfl rfl (knew_at _ [.int .i64 k, .int .i64 d, .string s, .int .i64 n] 64 _ (by simp)) (fun u hu => by simp at hu; rcases hu with rfl | rfl | rfl | rfl <;> rfl) (by unfold maxLen; omega) (by omega) (by simp; omega) ?_; intro v3 w3 own3 hg3 hm3; have B3 := Below.grown (BE.out.alloc BE.out.size _) hg3 (by simp; omega) (fun q hq => Nat.le_trans (by omega) (hown_block_ge OY.out q hq)); have OO := Lib.hid (hown_grown_other (World.ownsRow.alloc OX.out _) M.out.sep.turn hg3); have SP := Lib.hid (HSep.moved M.out.sep.turn hm3 (World.ownsRow.alloc OX.out _)); have BX3 := Lib.hid (box_grown (hheap_alloc_lt BX.out) (World.ownsRow.alloc OY.out _) hg3 (by decide)); have RS3 := Lib.hid (box_grown (hheap_alloc_lt RS.out) (World.ownsRow.alloc OY.out _) hg3 (by decide)); have t0 := kcells_of BX3.out 0; have t1 := kcells_of BX3.out 1; have tf := kfree_of BX3.out; have htl := lt_of_block BX3.out; simp only [List.getElem?_toArray, List.getElem?_cons_succ, List.getElem?_cons_zero] at t0 t1; obtain ⟨a3, c3, rfl⟩ := hown_form own3; have OW3 := Lib.hid own3; have BB3 := Lib.hid B3; clear own3 hg3 hm3 B3)
        go_roundg (gk - 1)
        case measure => exact hgx
        case rel =>
          refine ⟨i + 1, x, .slice a3 (sa.length + 1) c3, la, sa ++ [(k, d, s, n)], by go_num, by omega, ?_⟩
          exact ⟨by first | exact heap_set_eq BX3.out | (rw [heap_set_eq BX3.out]; rfl), (Below.heap_setCell _ _ _ _ (by show w.heap.size ≠ w.heap.size + 1; omega)).trans RS3.out, own_set_ty OO.out BX3.out (by decide) 1 (.slice a3 (sa.length + 1) c3), by rw [List.length_append, kcells_app]; exact own_set_ty OW3.out BX3.out (by decide) 1 (.slice a3 (sa.length + 1) c3), SP.out.turn, by have := M.out.ls; (try simp); omega, by have := M.out.ll; (try simp); omega, M.out.inx, fun q hq => by rcases List.mem_append.1 hq with hq | hq; exact M.out.iny q hq; rw [List.mem_singleton.1 hq]; exact HM.out, BB3.out.setCell (by show w.heap.size ≤ w.heap.size + 1; omega) _⟩
      · have e4 : decide ((i : Int) < (h : Int)) = false := decide_eq_false (by omega)
        obtain ⟨qo, co, rfl⟩ := hown_form OX.out
        go_wp2_with (at_builtin; refine hwpList_append_own2 rfl (.tmp 38) (.tmp 40) 60 rfl (w.heap.size + 2) 64 i64 (.agg #[.int .i64 0, .int .i64 0, .string ⟨#[]⟩, .int .i64 0]) 4 40 und60 hi64 hz64 hs64 hy64 rfl (by decide) (.slice qo la.length co) la.length _ rfl (World.ownsRow.alloc OX.out _) ⟨_, 0, none⟩ 1 1 [.int .i64 k, .int .i64 d, .string s, .int .i64 n] rfl rfl (knew_at _ [.int .i64 k, .int .i64 d, .string s, .int .i64 n] 64 _ (by simp)) (fun u hu => by simp at hu; rcases hu with rfl | rfl | rfl | rfl <;> rfl) (by unfold maxLen; omega) (by omega) (by simp; omega) ?_; intro v3 w3 own3 hg3 hm3; have B3 := Below.grown (BE.out.alloc BE.out.size _) hg3 (by simp; omega) (fun q hq => Nat.le_trans (by omega) (hown_block_ge OX.out q hq)); have OO := Lib.hid (hown_grown_other (World.ownsRow.alloc OY.out _) M.out.sep hg3); have SP := Lib.hid (HSep.moved M.out.sep hm3 (World.ownsRow.alloc OY.out _)); have BX3 := Lib.hid (box_grown (hheap_alloc_lt BX.out) (World.ownsRow.alloc OX.out _) hg3 (by decide)); have RS3 := Lib.hid (box_grown (hheap_alloc_lt RS.out) (World.ownsRow.alloc OX.out _) hg3 (by decide)); have t0 := kcells_of BX3.out 0; have t1 := kcells_of BX3.out 1; have tf := kfree_of BX3.out; have htl := lt_of_block BX3.out; simp only [List.getElem?_toArray, List.getElem?_cons_succ, List.getElem?_cons_zero] at t0 t1; obtain ⟨a3, c3, rfl⟩ := hown_form own3; have OW3 := Lib.hid own3; have BB3 := Lib.hid B3; clear own3 hg3 hm3 B3)
        go_roundg (gk - 1)
        case measure => exact hgx
        case rel =>
          refine ⟨i + 1, .slice a3 (la.length + 1) c3, y, la ++ [(k, d, s, n)], sa, by go_num, by omega, ?_⟩
          exact ⟨by first | exact heap_set_eq BX3.out | (rw [heap_set_eq BX3.out]; rfl), (Below.heap_setCell _ _ _ _ (by show w.heap.size ≠ w.heap.size + 1; omega)).trans RS3.out, by rw [List.length_append, kcells_app]; exact own_set_ty OW3.out BX3.out (by decide) 0 (.slice a3 (la.length + 1) c3), own_set_ty OO.out BX3.out (by decide) 0 (.slice a3 (la.length + 1) c3), SP.out, by have := M.out.ls; (try simp); omega, by have := M.out.ll; (try simp); omega, fun q hq => by rcases List.mem_append.1 hq with hq | hq; exact M.out.inx q hq; rw [List.mem_singleton.1 hq]; exact HM.out, M.out.iny, BB3.out.setCell (by show w.heap.size ≤ w.heap.size + 1; omega) _⟩
    · have e1 : decide ((i : Int) < (h : Int) + (lo : Int)) = false := decide_eq_false (by omega)
      have hge : h + lo ≤ i := by omega
      have s0 := kcells_of M.out.box 0
      have s1 := kcells_of M.out.box 1
      have r0 := kcells_of M.out.res 0
      have r1 := kcells_of M.out.res 1
      have rf := kfree_of M.out.res
      have hlr := lt_of_block M.out.res
      have hlb := lt_of_block M.out.box
      simp only [List.getElem?_toArray, List.getElem?_cons_succ, List.getElem?_cons_zero] at s0 s1 r0 r1
      obtain ⟨qx, cx, rfl⟩ := hown_form M.out.ox
      obtain ⟨qy, cy, rfl⟩ := hown_form M.out.oy
      clear hiq
      go_wp2
      have hs2 := set2 M.out.res (.slice qx la.length cx) (.slice qy sa.length cy)
      have z0 := kcells_of hs2 0
      have z1 := kcells_of hs2 1
      simp only [List.getElem?_toArray, List.getElem?_cons_succ, List.getElem?_cons_zero] at z0 z1
      refine bodyPost_ret (v := .agg #[.slice qx la.length cx, .slice qy sa.length cy]) (by simp [results, results56, go_sem, z0, z1]) rfl ?_
      have o1 := own_set_ty (own_set_ty M.out.ox M.out.res (by decide) 0 (.slice qx la.length cx)) (heap_set_eq M.out.res) (by decide) 1 (.slice qy sa.length cy)
      have o2 := own_set_ty (own_set_ty M.out.oy M.out.res (by decide) 0 (.slice qx la.length cx)) (heap_set_eq M.out.res) (by decide) 1 (.slice qy sa.length cy)
      have hls := M.out.ls
      have hll := M.out.ll
      exact ⟨_, _, la, sa, rfl, ⟨Row.hof_own o1, Row.hof_own o2⟩, by omega, by omega, M.out.inx, M.out.iny, (M.out.below.setCell (Nat.le_refl _) _).setCell (Nat.le_refl _) _⟩
end Go.Proofs.YtmaknddlgppinaaGreatDoor
