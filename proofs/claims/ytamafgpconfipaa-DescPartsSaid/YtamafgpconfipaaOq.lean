/-
  OPENING the laws' arguments: a row of types, a signature by value.
-/
import Derived.Test.YtamafgpconfipaaOp
import Derived.Test.YtamafgpconfipaaD11
import Derived.Deep.Slices
set_option linter.unusedVariables false
namespace Go.Proofs.Ytamafgpconfipaa
open Go.Joins Go.ChangeShapes Go.WideShapes Go.ChangeAt Go.RowKit Go.Deep
theorem build {P : Nat → Tz → Prop} (n : Nat) (h : ∀ i, i < n → ∃ q, P i q) : ∃ xs : List Tz, xs.length = n ∧ ∀ i (hi : i < xs.length), P i xs[i] := by
  induction n with
  | zero => exact ⟨[], rfl, fun i hi => by simp at hi⟩
  | succ n ih =>
    obtain ⟨xs, hl, hx⟩ := ih (fun i hi => h i (by omega))
    obtain ⟨q, hq⟩ := h n (by omega)
    refine ⟨xs ++ [q], by simp [hl], fun i hi => ?_⟩
    by_cases hlt : i < xs.length
    · rw [List.getElem_append_left hlt]
      exact hx i hlt
    · have e : i = n := by simp at hi; omega
      subst e
      rw [List.getElem_append_right (by omega)]
      simpa using hq
section
variable {H : Type} {enc : TypeId × Value → H} {w : World} {base : Nat} {spare : Nat → Bool} {held : Bool}
theorem trod_ty {fuel : Nat} {cs : List Value} {x : DataW H × List MemPlace} (h : DataW.trod enc Try.prog w base spare held fuel 23 cs = some x) :
    ∃ (n : Int) (s : ByteArray), cs = [.int .i64 n, .string s] := by
  obtain ⟨xs, m, _, _, hl, _, hf⟩ := DataW.trod_struct Try.underlying23 h
  have hC : Try.prog.cellsOf 23 = 2 := by kernel_rfl
  rw [hC] at hl
  obtain ⟨c0, c1, rfl⟩ : ∃ c0 c1, cs = [c0, c1] := by
    match cs, hl with
    | [c0, c1], _ => exact ⟨c0, c1, rfl⟩
  have h0 := hf 0 _ rfl
  have h1 := hf 1 _ rfl
  have hlx : xs.length = 2 := by assumption
  have e0 : xs[0]? = some xs[0] := List.getElem?_eq_getElem (by omega)
  have e1 : xs[1]? = some xs[1] := List.getElem?_eq_getElem (by omega)
  rw [e0] at h0
  rw [e1] at h1
  obtain ⟨z, hz, _, _⟩ := DataW.trod_int Try.underlying3 h0
  obtain ⟨s, hs, _, _⟩ := DataW.trod_string Try.underlying9 h1
  have k3 : Try.prog.cellsOf 3 = 1 := by kernel_rfl
  have k9 : Try.prog.cellsOf 9 = 1 := by kernel_rfl
  simp [k3] at hz
  simp [k9] at hs
  exact ⟨z, s, by rw [hz, hs]⟩
theorem open_row {fuel : Nat} {v : Value} {x : DataW H × List MemPlace} (h : DataW.trod enc Try.prog w base spare held fuel 34 [v] = some x) : ∃ xs, TyRow w v xs := by
  rcases open_slice Try.underlying34 h with ⟨h0, _⟩ | ⟨a, len, cap, m, n, D, Pl, hcs, hb, hl, hm, hmm, hx, hi⟩
  · obtain rfl : v = .slice none 0 0 := by simpa using h0
    exact ⟨[], none, 0, rfl, Nat.le_refl _, by unfold maxLen; omega, .inl rfl⟩
  · obtain rfl : v = .slice (some a) len cap := by simpa using hcs
    have hlm : len ≤ m := by rw [hmm]; split <;> omega
    have hC : Try.prog.cellsOf 23 = 2 := by kernel_rfl
    have key : ∀ i, i < len → ∃ q : Tz, w.cell? ((a.add (i * 2)).add 0) = some (.int .i64 q.1) ∧ w.cell? ((a.add (i * 2)).add 1) = some (.string q.2) := by
      intro i hil
      obtain ⟨cs', hc, ht⟩ := hi i (by omega)
      obtain ⟨z, s, rfl⟩ := trod_ty ht
      rw [hC] at hc
      obtain ⟨_, hcl, hat⟩ := World.cells?_some hc
      exact ⟨(z, s), hat 0 (by omega), hat 1 (by omega)⟩
    obtain ⟨xs, hxl, hxs⟩ := build len key
    subst hxl
    refine ⟨xs, some a, cap, rfl, hl, hm, ?_⟩
    by_cases hnil : xs = []
    · exact .inl hnil
    · have hp := List.length_pos_iff.2 hnil
      have g0 := (hxs 0 hp).1
      have ea : (a.add (0 * 2)).add 0 = a := by simp [Addr.add]
      rw [ea] at g0
      have hsp := World.cell?_spot g0
      obtain ⟨ab, ao, sp⟩ := a
      have hsp' : sp = none := hsp
      subst hsp'
      refine .inr ⟨ab, ao, rfl, fun i hi => ?_⟩
      have := hxs i hi
      have e1 : (({ block := ab, off := ao } : Addr).add (i * 2)).add 0 = ⟨ab, ao + i * 2, none⟩ := by
        rw [add_add]; unfold Addr.add; split <;> simp_all
      have e2 : (({ block := ab, off := ao } : Addr).add (i * 2)).add 1 = ⟨ab, ao + i * 2 + 1, none⟩ := by
        rw [add_add]; unfold Addr.add; split <;> simp_all; omega
      rw [e1, e2] at this
      exact this
theorem open_sig {r : Reach} {b0 : Nat} {v : Value} {d : DataW H} {p : List MemPlace} (hv : Value.okWide Try.prog w r b0 36 v) (h : DataW.Trod enc Try.prog w base spare held 36 v d p) :
    ∃ (c : Value) (xs : List Tz) (n : Int) (s : ByteArray) (b : Bool), v = .agg #[c, .int .i64 n, .string s, .bool b] ∧ TyRow w c xs := by
  obtain ⟨cs, rfl, hsz⟩ := okWide_struct Try.underlying36 hv
  have hC : Try.prog.cellsOf 36 = 4 := by kernel_rfl
  rw [hC] at hsz
  obtain ⟨l⟩ := cs
  obtain ⟨c0, c1, c2, c3, rfl⟩ : ∃ c0 c1 c2 c3, l = [c0, c1, c2, c3] := by
    match l, hsz with
    | [c0, c1, c2, c3], _ => exact ⟨c0, c1, c2, c3, rfl⟩
  obtain ⟨fuel, hf⟩ := h
  obtain ⟨xs, m, _, _, hl, hlx, hff⟩ := DataW.trod_struct Try.underlying36 hf
  have h0 : DataW.trod enc Try.prog w base spare held m 34 (([c0, c1, c2, c3].drop 0).take (Try.prog.cellsOf 34)) = xs[0]? := hff 0 _ rfl
  have h1 : DataW.trod enc Try.prog w base spare held m 23 (([c0, c1, c2, c3].drop 1).take (Try.prog.cellsOf 23)) = xs[1]? := hff 1 _ rfl
  have h2 : DataW.trod enc Try.prog w base spare held m 4 (([c0, c1, c2, c3].drop 3).take (Try.prog.cellsOf 4)) = xs[2]? := hff 2 _ rfl
  have hlx' : xs.length = 3 := hlx
  have e0 : xs[0]? = some xs[0] := List.getElem?_eq_getElem (by omega)
  have e1 : xs[1]? = some xs[1] := List.getElem?_eq_getElem (by omega)
  have e2 : xs[2]? = some xs[2] := List.getElem?_eq_getElem (by omega)
  rw [e0] at h0
  rw [e1] at h1
  rw [e2] at h2
  have k34 : Try.prog.cellsOf 34 = 1 := by kernel_rfl
  have k23 : Try.prog.cellsOf 23 = 2 := by kernel_rfl
  have k4 : Try.prog.cellsOf 4 = 1 := by kernel_rfl
  rw [k34] at h0
  rw [k23] at h1
  rw [k4] at h2
  obtain ⟨n, s, hns⟩ := trod_ty h1
  obtain ⟨b, hb, _⟩ := DataW.trod_bool Try.underlying4 h2
  obtain ⟨ys, hy⟩ := open_row h0
  simp at hns hb
  obtain ⟨rfl, rfl⟩ := hns
  subst hb
  exact ⟨c0, ys, n, s, b, rfl, hy⟩
end
end Go.Proofs.Ytamafgpconfipaa
