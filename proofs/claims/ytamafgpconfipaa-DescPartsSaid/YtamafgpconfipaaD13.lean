/-
  'Sign' and 'Method' answer each other.
-/
import Derived.Test.YtamafgpconfipaaD12
set_option linter.unusedVariables false
set_option linter.unusedSimpArgs false
namespace Go.Proofs.Ytamafgpconfipaa
open Go.RowKit

def tyOf (p : Tz) : Ty := (p.1.toNat, L p.2)
def zOf (p : Ty) : Tz := (p.1, mkB p.2)
theorem zOf_tyOf {p : Tz} (h : okz p = true) : zOf (tyOf p) = p := by
  obtain ⟨d, n⟩ := p
  have := okT_dims h
  show ((d.toNat : Int), mkB (L n)) = _
  rw [mkB_L]
  have e : ((d.toNat : Nat) : Int) = d := by
    have h1 := this.1
    simp only at h1
    omega
  rw [e]
theorem okz_zOf {p : Ty} (h : okP p = true) : okz (zOf p) = true := okP_okT h
theorem dsz_zOf (p : Ty) : dsz (zOf p) = descT p := rfl
theorem dsz_tyOf (p : Tz) : dsz p = descT (tyOf p) := rfl
theorem flat_tyOf (xs : List Tz) : xs.flatMap dsz = (xs.map tyOf).flatMap descT := by
  induction xs with
  | nil => rfl
  | cons p xs ih => simp only [List.flatMap_cons, List.map_cons, ih, dsz_tyOf]
theorem flat_zOf (ts : List Ty) : (ts.map zOf).flatMap dsz = ts.flatMap descT := by
  induction ts with
  | nil => rfl
  | cons p ts ih => simp only [List.flatMap_cons, List.map_cons, ih, dsz_zOf]
theorem all_okP {xs : List Tz} (h : xs.all okz = true) : ∀ p ∈ xs.map tyOf, okP p = true := by
  intro p hp
  obtain ⟨q, hq, rfl⟩ := List.mem_map.1 hp
  rw [List.all_eq_true] at h
  exact (okT_okP (h q hq)).1
theorem map_back {xs : List Tz} (h : xs.all okz = true) : (xs.map tyOf).map zOf = xs := by
  rw [List.map_map]
  rw [List.all_eq_true] at h
  conv => rhs; rw [← List.map_id xs]
  exact List.map_congr_left fun p hp => zOf_tyOf (h p hp)
/-- A row of the call's own reads as its types. -/
theorem own_row {w : World} {base : Nat} {v : Value} {ts : List Ty} (h : w.ownsRow base 23 2 v ts.length (tcells ts)) : TyRow w v (ts.map zOf) := by
  have key : ∀ (ts : List Ty) (i : Nat) (hi : i < ts.length), (tcells ts)[i * 2]? = some (.int .i64 ts[i].1) ∧ (tcells ts)[i * 2 + 1]? = some (.string (mkB ts[i].2)) := by
    intro ts
    induction ts with
    | nil => intro i hi; simp at hi
    | cons p ts ih =>
      intro i hi
      cases i with
      | zero => exact ⟨rfl, rfl⟩
      | succ i =>
        have := ih i (by simpa using hi)
        have e1 : (i + 1) * 2 = i * 2 + 2 := by omega
        rw [e1]
        exact this
  rcases h.2 with ⟨rfl, hn⟩ | ⟨g, cap, cur, rfl, hb, hh, hc, hm, _⟩
  · have : ts = [] := List.eq_nil_of_length_eq_zero hn
    subst this
    exact ⟨none, 0, rfl, Nat.le_refl _, by unfold maxLen; omega, .inl rfl⟩
  · refine ⟨some ⟨g, 0, none⟩, cap, by rw [List.length_map], by rw [List.length_map]; exact hc, hm, .inr ⟨g, 0, rfl, fun i hi => ?_⟩⟩
    have hi' : i < ts.length := by simpa using hi
    obtain ⟨k1, k2⟩ := key ts i hi'
    have a1 := h.cells (g := g) rfl _ _ k1
    have a2 := h.cells (g := g) rfl _ _ k2
    have e : ∀ j, (({ block := g, off := 0 } : Addr).add j) = ⟨g, 0 + j, none⟩ := fun j => by simp [Addr.add]; intro h0; exact h0.symm
    rw [e] at a1 a2
    have ez : (ts.map zOf)[i] = zOf ts[i] := by simp
    rw [ez]
    exact ⟨a1, by rw [show 0 + i * 2 + 1 = 0 + (i * 2 + 1) by omega]; exact a2⟩
theorem sg_zero {xs : List Tz} {r : Tz} {b : Bool} (h : sgE xs r b = 0) : xs.all okz = true ∧ okz r = true ∧ (b = true → refT r.1 (L r.2) = false) ∧ xs.length ≤ 16 := by
  unfold sgE at h
  split at h
  · rename_i hh
    split at h
    · rename_i h16
      exact ⟨hh.1, hh.2.1, hh.2.2, h16⟩
    · omega
  · omega
theorem int_type {r : Tz} (h1 : okz r = true) (h2 : refT r.1 (L r.2) = false) : r = (0, ⟨#[]⟩) := by
  obtain ⟨d, n⟩ := r
  have h1' : okT d (L n) = true := h1
  have h2' : refT d (L n) = false := h2
  unfold refT at h2'
  rw [h1', Bool.true_and, Bool.not_eq_false', Bool.and_eq_true, decide_eq_true_eq, List.isEmpty_iff] at h2'
  rw [h2'.1]
  have : n = ⟨#[]⟩ := by rw [← mkB_L n, h2'.2]; rfl
  rw [this]
theorem sg_desc {xs : List Tz} {r : Tz} {b : Bool} (h : sgE xs r b = 0) :
    sgT xs r b = mkB (sigD (xs.map tyOf, if b then none else some (tyOf r))) ∧ okS (xs.map tyOf, if b then none else some (tyOf r)) := by
  obtain ⟨h1, h2, h3, h4⟩ := sg_zero h
  refine ⟨?_, all_okP h1, fun p hp => ?_⟩
  · rw [(sg_ok h1 h2 h3 h4).2, flat_tyOf]
    cases b <;> rfl
  · cases b with
    | true => simp at hp
    | false =>
      simp only [Bool.false_eq_true, if_false, Option.some.injEq] at hp
      rw [← hp]
      exact (okT_okP h2).1
theorem sg_len {xs : List Tz} {r : Tz} {b : Bool} (h : sgE xs r b = 0) : (sgT xs r b).size ≤ 10000 := by
  obtain ⟨h1, h2, h3, h4⟩ := sg_zero h
  have := flat_len h1
  have h5 := dsz_len h2
  rw [(sg_ok h1 h2 h3 h4).2, size_L, L_mkB]
  simp only [List.length_cons, List.length_append]
  cases b
  · simp only [Bool.false_eq_true, if_false]; omega
  · simp only [if_true, List.length_cons, List.length_nil]; omega
/-- 'Method' of what 'Sign' wrote. -/
theorem sign_meth (xs : List Tz) (rd : Int) (rn : ByteArray) (b : Bool) (w : World) (h : sgE xs (rd, rn) b = 0) :
    Calls Try.prog 20 #[.string (sgT xs (rd, rn) b)] w fun e w' => ∃ v, e = .returned (.tuple #[.agg #[v, .int .i64 rd, .string rn, .bool b], .int .i64 0]) ∧ TyRow w' v xs ∧ Below w.heap.size w w' := by
  obtain ⟨h1, h2, h3, h4⟩ := sg_zero h
  obtain ⟨hd, hok⟩ := sg_desc h
  have hm : methL (L (sgT xs (rd, rn) b)) = some (xs.map tyOf, if b then none else some (tyOf (rd, rn))) := by rw [hd]; exact methL_of hok
  have hr : res (some (xs.map tyOf, if b then none else some (tyOf (rd, rn)))) = (xs.map tyOf, tyOf (rd, rn), b, 0) := by
    show (if (xs.map tyOf).length ≤ 16 then _ else _) = _
    rw [if_pos (by simpa using h4)]
    cases b with
    | false => rfl
    | true =>
      have := int_type h2 (h3 rfl)
      have e1 : rd = 0 := congrArg Prod.fst this
      have e2 : rn = ⟨#[]⟩ := congrArg Prod.snd this
      subst e1 e2
      rfl
  refine (Method_at _ w _ _ (by have := sg_len h; omega) hm hr).mono fun e w' hh => ?_
  obtain ⟨v, rfl, own, hb⟩ := hh
  have ht := own_row own
  rw [map_back h1] at ht
  refine ⟨v, ?_, ht, hb⟩
  have hz := zOf_tyOf h2
  have e1 : (((tyOf (rd, rn)).1 : Nat) : Int) = rd := congrArg Prod.fst hz
  have e2 : mkB (tyOf (rd, rn)).2 = rn := congrArg Prod.snd hz
  show Ending.returned (.tuple #[.agg #[v, .int .i64 (((tyOf (rd, rn)).1 : Nat) : Int), .string (mkB (tyOf (rd, rn)).2), .bool b], .int .i64 0]) = _
  rw [e1, e2]
/-- What 'Method' answers may be signed again. -/
theorem meth_back (s : ByteArray) (w : World) (hs : s.size ≤ 1000000) (m : List Ty × Option Ty) (hm : methL (L s) = some m) (h16 : m.1.length ≤ 16) :
    ∃ (xs : List Tz) (rd : Int) (rn : ByteArray) (b : Bool), sgE xs (rd, rn) b = 0 ∧ sgT xs (rd, rn) b = s ∧ xs.length ≤ 16 ∧
      Calls Try.prog 20 #[.string s] w fun e w' => ∃ v, e = .returned (.tuple #[.agg #[v, .int .i64 rd, .string rn, .bool b], .int .i64 0]) ∧ TyRow w' v xs ∧ Below w.heap.size w w' := by
  obtain ⟨ts, q⟩ := m
  obtain ⟨⟨ho1, ho2⟩, hL⟩ := methL_some hm
  have h16' : ts.length ≤ 16 := h16
  have hr : res (some (ts, q)) = (ts, q.getD (0, []), q.isNone, 0) := by
    show (if ts.length ≤ 16 then _ else _) = _
    rw [if_pos h16']
  have hall : (ts.map zOf).all okz = true := by
    rw [List.all_eq_true]
    intro p hp
    obtain ⟨t, ht, rfl⟩ := List.mem_map.1 hp
    exact okz_zOf (ho1 t ht)
  have hg : okP (q.getD (0, [])) = true := by
    cases q with
    | none => decide
    | some p => exact ho2 p rfl
  have h3 : q.isNone = true → refT ((q.getD (0, [])).1 : Int) (L (mkB (q.getD (0, [])).2)) = false := by
    cases q with
    | none => intro _; decide
    | some p => intro h; simp at h
  have hok := sg_ok hall (okz_zOf hg) h3 (by simpa using h16')
  refine ⟨ts.map zOf, (q.getD (0, [])).1, mkB (q.getD (0, [])).2, q.isNone, hok.1, ?_, by simpa using h16', ?_⟩
  · refine hok.2.trans ?_
    rw [flat_zOf, ← mkB_L s, hL]
    unfold sigD
    cases q with
    | none => rfl
    | some p => rfl
  · refine (Method_at s w _ _ hs hm hr).mono fun e w' hh => ?_
    obtain ⟨v, rfl, own, hb⟩ := hh
    exact ⟨v, rfl, own_row own, hb⟩
/-- 'Method' of a text that is no signature's, or has too many arguments. -/
theorem meth_err (s : ByteArray) (w : World) (hs : s.size ≤ 1000000) (h : ∀ m, methL (L s) = some m → 16 < m.1.length) :
    ∃ err : Int, (err == 0) = false ∧ Calls Try.prog 20 #[.string s] w fun e w' => ∃ a c, e = .returned (.tuple #[.agg #[.slice a 0 c, .int .i64 0, .string ⟨#[]⟩, .bool false], .int .i64 err]) ∧ Below w.heap.size w w' := by
  cases hm : methL (L s) with
  | none =>
    refine ⟨9, by decide, (Method_at s w _ _ hs hm res_none).mono fun e w' hh => ?_⟩
    obtain ⟨v, rfl, own, hb⟩ := hh
    obtain ⟨a, c, rfl⟩ := slice_zero own
    exact ⟨a, c, rfl, hb⟩
  | some m =>
    obtain ⟨ts, q⟩ := m
    have h17 : 16 < ts.length := h _ hm
    have hr : res (some (ts, q)) = ([], (0, []), false, 3) := by
      show (if ts.length ≤ 16 then _ else _) = _
      rw [if_neg (by omega)]
    refine ⟨3, by decide, (Method_at s w _ _ hs hm hr).mono fun e w' hh => ?_⟩
    obtain ⟨v, rfl, own, hb⟩ := hh
    obtain ⟨a, c, rfl⟩ := slice_zero own
    exact ⟨a, c, rfl, hb⟩
end Go.Proofs.Ytamafgpconfipaa
