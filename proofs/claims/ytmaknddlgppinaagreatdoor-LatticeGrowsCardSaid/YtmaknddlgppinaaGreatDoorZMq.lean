/-
  What LatticeGrows stands on: states that fall, rows that are written, rows of rows of numbers.
-/
import Derived.Test.YtmaknddlgppinaaGreatDoorZMn
import Derived.Test.YtmaknddlgppinaaGreatDoorZ41
set_option linter.unusedVariables false
set_option linter.unusedSimpArgs false
namespace Go.Proofs.YtmaknddlgppinaaGreatDoor
open Go.RowKit

/-- How far a list of knowns is from the top. -/
def sumH : List KQ → Nat
  | [] => 0
  | q :: l => hgt q.kn + sumH l
def In19 (l : List KQ) : Prop := ∀ q ∈ l, q.kn ∈ kn19
theorem sum_rise : ∀ (x la : List KQ), x.length = la.length → (∀ (i : Nat) (q q' : KQ), x[i]? = some q → la[i]? = some q' → q = q' ∨ hgt q.kn < hgt q'.kn) → sumH x ≤ sumH la ∧ (x = la ∨ sumH x < sumH la)
  | [], [], _, _ => ⟨Nat.le_refl _, .inl rfl⟩
  | q :: x, q' :: la, hl, h => by
    obtain ⟨h1, h2⟩ := sum_rise x la (by simpa using hl) (fun i a b ha hb => h (i + 1) a b ha hb)
    have h0 := h 0 q q' rfl rfl
    simp only [sumH]
    rcases h0 with rfl | h0
    · refine ⟨by omega, ?_⟩
      rcases h2 with rfl | h2
      · exact .inl rfl
      · exact .inr (by omega)
    · exact ⟨by omega, .inr (by omega)⟩
theorem sum_most : ∀ (l : List KQ), In19 l → sumH l ≤ 6 * l.length
  | [], _ => Nat.le_refl _
  | q :: l, h => by
    have h1 := sum_most l (fun p hp => h p (by simp [hp]))
    have h2 := (rise19 q.kn (h q (by simp))).1
    simp only [sumH, List.length_cons]
    omega
theorem JoinL.rise {la lb x : List KQ} (hx : JoinL cs7 la lb x) (hl : la.length = lb.length) (ha : In19 la) (hb : In19 lb) : In19 x ∧ sumH x ≤ sumH la ∧ (x = la ∨ sumH x < sumH la) := by
  have key : ∀ (i : Nat) (q q' : KQ), x[i]? = some q → la[i]? = some q' → q.kn ∈ kn19 ∧ (q = q' ∨ hgt q.kn < hgt q'.kn) := fun i q q' h1 h2 => by
    obtain ⟨qa, qb, a1, b1, e1, _⟩ := hx.at h1
    cases h2.symm.trans a1
    have := join19 hV7 (ha _ (List.mem_of_getElem? a1)) (hb _ (List.mem_of_getElem? b1))
    rw [← e1] at this
    exact ⟨this.1, this.2.imp_left KQ.kn_inj⟩
  refine ⟨fun q hq => ?_, sum_rise x la (by rw [hx.1, ← hl, Nat.min_self]) fun i q q' h1 h2 => (key i q q' h1 h2).2⟩
  obtain ⟨i, hi, rfl⟩ := List.getElem_of_mem hq
  have hxl := hx.1
  exact (key i _ _ (List.getElem?_eq_getElem hi) (List.getElem?_eq_getElem (show i < la.length by omega))).1
theorem in19_17 {l : List KQ} (h : ∀ q ∈ l, q ∈ kq17) : In19 l := fun q hq => by
  have h1 := h q hq
  have : ∀ q ∈ kq17, q.kn ∈ kn19 := by decide +kernel
  exact this q h1
theorem okl19 {l : List KQ} (h : In19 l) (hs : ∀ q ∈ l, q.2.2.1.size ≤ 1000000) : OkL l := fun q hq => ⟨okKB_ok hV7 (all19 _ (h q hq)), hs q hq⟩
/-- A row of its own, of which one place is written. -/
theorem own_put {w : World} {base g cap i : Nat} {l : List KQ} (h : w.ownsRow base 64 4 (.slice (some ⟨g, 0, none⟩) l.length cap) l.length (kcells l)) (q : KQ) (hi : i < l.length) :
    ((((w.setCell ⟨g, i * 4, none⟩ (.int .i64 q.1)).setCell ⟨g, i * 4 + 1, none⟩ (.int .i64 q.2.1)).setCell ⟨g, i * 4 + 2, none⟩ (.string q.2.2.1)).setCell ⟨g, i * 4 + 3, none⟩ (.int .i64 q.2.2.2)).ownsRow base 64 4 (.slice (some ⟨g, 0, none⟩) l.length cap) l.length (kcells (l.set i q)) := by
  obtain ⟨h1, h2⟩ := h
  refine ⟨by rw [kcells_len, List.length_set]; omega, ?_⟩
  rcases h2 with ⟨e, _⟩ | ⟨g', cap', cur, e, hb, hg, hc, hm, hs, ht⟩
  · cases e
  · cases e
    have a1 := heap_set_eq hg (i := i * 4) (u := .int .i64 q.1)
    have a2 := heap_set_eq a1 (i := i * 4 + 1) (u := .int .i64 q.2.1)
    have a3 := heap_set_eq a2 (i := i * 4 + 2) (u := .string q.2.2.1)
    have a4 := heap_set_eq a3 (i := i * 4 + 3) (u := .int .i64 q.2.2.2)
    refine .inr ⟨g, cap, _, rfl, hb, a4, hc, hm, by simpa using hs, ?_⟩
    rw [← kcells_set q hi]
    simp only [Array.toList_setIfInBounds, List.take_set, ht]
/-- A row of rows of numbers. -/
def IIRow (B : Nat) (w : World) (v : Value) (ls : List (List Int)) : Prop :=
  ∃ xs : List Value, xs.length = ls.length ∧ (∀ (i : Nat) (l : List Int) (x : Value), ls[i]? = some l → xs[i]? = some x → IRow B w x l) ∧ Row B 1 w v ls.length xs
theorem IIRow.at_ {B : Nat} {w : World} {A : Option Addr} {n cap k : Nat} {ls : List (List Int)} {l : List Int} (h : IIRow B w (.slice A n cap) ls) (hk : ls[k]? = some l) :
    ∃ b o A' c', A = some ⟨b, o, none⟩ ∧ b < B ∧ w.cell? ⟨b, o + k, none⟩ = some (.slice A' l.length c') ∧ IRow B w (.slice A' l.length c') l ∧ l.length ≤ maxLen := by
  obtain ⟨xs, h1, h2, A', cap', e, _, _, h3, h4⟩ := h
  injection e with e1 e2 e3
  subst e1
  have hl : k < ls.length := (List.getElem?_eq_some_iff.1 hk).1
  obtain ⟨b, o, e, hb, hc⟩ := h4 (by omega)
  have hx : xs[k]? = some (xs[k]'(by omega)) := List.getElem?_eq_getElem (by omega)
  have hr := h2 k l _ hk hx
  obtain ⟨A2, c2, e2, hcap, hm, hrd⟩ := id hr
  refine ⟨b, o, A2, c2, e, hb, ?_, ?_, hm⟩
  · rw [hc _ _ hx, e2]
  · rw [← e2]; exact hr
theorem IIRow.keep {B : Nat} {w w' : World} {v : Value} {ls : List (List Int)} (h : IIRow B w v ls) (hk : ∀ p : Addr, p.block < B → w'.cell? p = w.cell? p) : IIRow B w' v ls := by
  obtain ⟨xs, h1, h2, h3⟩ := h
  exact ⟨xs, h1, fun i l x a b => (h2 i l x a b).keep hk, h3.keep hk⟩
theorem IIRow.more {B B' : Nat} {w : World} {v : Value} {ls : List (List Int)} (h : IIRow B w v ls) (hB : B ≤ B') : IIRow B' w v ls := by
  obtain ⟨xs, h1, h2, h3⟩ := h
  exact ⟨xs, h1, fun i l x a b => (h2 i l x a b).more hB, h3.more hB⟩
section
variable {H : Type} {enc : TypeId × Value → H} {w : World} {base : Nat} {spare : Nat → Bool} {held : Bool}
theorem open_numss {fuel : Nat} {v : Value} {x : DataW H × List MemPlace} (h : DataW.trod enc Tryz.prog w base spare held fuel 86 [v] = some x) : ∃ ls : List (List Int), IIRow w.heap.size w v ls ∧ ∀ l ∈ ls, ∀ z ∈ l, B64 z := by
  obtain ⟨A, cap, ps, rfl, hl, hm, hq, hr⟩ := open_rowsN (fun (m : List Int × Value) cs => cs = [m.2] ∧ IRow w.heap.size w m.2 m.1 ∧ ∀ z ∈ m.1, B64 z) Tryz.underlying86 (size := 1) (by kernel_rfl) (by omega) (fun n cs y h => by
    obtain ⟨c, rfl⟩ : ∃ c, cs = [c] := by
      rcases DataW.trod_slice Tryz.underlying29 h with ⟨e, _⟩ | ⟨a, len, cap, _, _, _, _, e, _⟩
      · exact ⟨_, e⟩
      · exact ⟨_, e⟩
    obtain ⟨l, h1, h2⟩ := open_nums h
    exact ⟨(l, c), rfl, h1, h2⟩) h
  have e : ps.flatMap (·.2) = ps.map (·.1.2) := by
    clear hl hm hr h
    induction ps with
    | nil => rfl
    | cons p r ih =>
      rw [List.flatMap_cons, ih (fun q hq' => hq q (by simp [hq'])), (hq p (by simp)).1]
      rfl
  refine ⟨ps.map (·.1.1), ⟨ps.map (·.1.2), by simp, fun i l x hi hx => ?_, A, cap, by rw [List.length_map], by rw [List.length_map]; exact hl, by rw [List.length_map]; exact hm, by rw [List.length_map, ← e]; exact hr⟩, fun l hl' => ?_⟩
  · rw [List.getElem?_map] at hi hx
    cases hp : ps[i]? with
    | none => rw [hp] at hi; cases hi
    | some p =>
      rw [hp] at hi hx
      cases hi; cases hx
      exact (hq p (List.mem_of_getElem? hp)).2.1
  · obtain ⟨p, hp, rfl⟩ := List.mem_map.1 hl'
    exact (hq p hp).2.2
end
end Go.Proofs.YtmaknddlgppinaaGreatDoor
