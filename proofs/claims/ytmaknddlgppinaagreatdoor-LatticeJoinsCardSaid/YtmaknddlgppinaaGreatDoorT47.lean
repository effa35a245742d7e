/-
  CUT and joined from the texts of this seat: Nd
-/
import Derived.Test.YtmaknddlgppinaaGreatDoorT46
import Derived.Test.YtmaknddlgppinaaGreatDoorT40
set_option linter.unusedVariables false
set_option linter.unusedSimpArgs false
namespace Go.Proofs.YtmaknddlgppinaaGreatDoor
open Go.RowKit
theorem BAns.lit {p : Prop} {w w' : World} {e : Ending} {r : Bool} (h : BAns p w w' e) (hr : r = true ↔ p) : e = .returned (.bool r) ∧ Below w.heap.size w w' := by
 obtain ⟨r', rfl, hr', hb⟩ := h
 have : r' = r := by rw [Bool.eq_iff_iff]; exact hr'.trans hr.symm
 rw [this]
 exact ⟨rfl, hb⟩
theorem names7_ok : NamesOk cs7 := names7
def ycells : List (Int × ByteArray) → List Value
 | [] => []
 | t :: l => .int .i64 t.1 :: .string t.2 :: ycells l
theorem ycells_at {l : List (Int × ByteArray)} {i : Nat} {t : Int × ByteArray} (h : l[i]? = some t) : (ycells l)[i * 2]? = some (.int .i64 t.1) ∧ (ycells l)[i * 2 + 1]? = some (.string t.2) := by
 induction l generalizing i with
 | nil => cases h
 | cons a l ih =>
  cases i with
  | zero => cases h; exact ⟨rfl, rfl⟩
  | succ i =>
   have e : (i + 1) * 2 = i * 2 + 1 + 1 := by omega
   rw [e]
   exact ih (i := i) h
/-- A row of types. -/
def YRow (B : Nat) (w : World) (v : Value) (l : List (Int × ByteArray)) : Prop := Row B 2 w v l.length (ycells l)
theorem YRow.at_ {B : Nat} {w : World} {A : Option Addr} {n cap k : Nat} {l : List (Int × ByteArray)} {t : Int × ByteArray} (h : YRow B w (.slice A n cap) l) (hk : l[k]? = some t) :
  ∃ b o, A = some ⟨b, o, none⟩ ∧ b < B ∧ w.cell? ⟨b, o + k * 2, none⟩ = some (.int .i64 t.1) ∧ w.cell? ⟨b, o + k * 2 + 1, none⟩ = some (.string t.2) := by
 obtain ⟨A', cap', e, _, _, _, h2⟩ := h
 injection e with e1 e2 e3
 subst e1
 have hlt : k < l.length := (List.getElem?_eq_some_iff.1 hk).1
 obtain ⟨b, o, e, hb, hc⟩ := h2 (by omega)
 have ht := ycells_at hk
 exact ⟨b, o, e, hb, hc _ _ ht.1, hc _ _ ht.2⟩
set_option maxRecDepth 1000000 in
set_option maxHeartbeats 6400000 in
theorem tables7r_any {w : World} (hN : Blt w) :
  Calls Tryz.prog 34 #[] w fun e w' => ∃ Bt nb mb A cap cl sl S pu Au cu, e = .returned (.tuple #[.pointer (some ⟨nb, 0, none⟩), .pointer (some ⟨pu, 0, none⟩)]) ∧ HT Bt nb mb A cap builtP.length cs7 cl sl S w' ∧ RT w'.heap.size pu Au cu cs7 builtP.length w' ∧ Below w.heap.size w w' := by
 have HN := Lib.hid hN
 clear hN
 go_enter Tryz.func34, Tryz.ntmps34
 go_wp2_with fail
 refine (files7_any _).mono ?_
 rintro e w1 ⟨v1, rfl, hf1, hb1⟩
 have F1 := Lib.hid hf1
 have B1 := Lib.hid hb1
 clear hf1 hb1
 go_wp2_with fail
 refine (New7 (HN.out.below B1.out) _ F1.out (Nat.le_refl _)).mono ?_
 rintro e w2 ⟨⟨nb, mb, A, cap, cl, sl, S, rfl, ht⟩, hb2⟩
 have HT := Lib.hid ht
 have B2 := Lib.hid (Below.hlink B1.out hb2)
 clear ht hb2 B1 F1
 go_wp2_with fail
 refine (files7_any _).mono ?_
 rintro e w3 ⟨v3, rfl, hf3, hb3⟩
 have F3 := Lib.hid hf3
 have HT3 := Lib.hid (HT.out.below (hb3.mono HT.out.hB))
 have B3 := Lib.hid (Below.hlink B2.out hb3)
 clear hf3 hb3 B2 HT
 go_wp2_with fail
 refine (RNew7 _ _ F3.out (Nat.le_refl _)).mono ?_
 rintro e w4 ⟨⟨pu, Au, cu, rfl, hu⟩, hb4⟩
 have HT4 := Lib.hid (HT3.out.below (hb4.mono HT3.out.hB))
 have B4 := Lib.hid (Below.hlink B3.out hb4)
 have HU := Lib.hid hu
 clear hu hb4 B3 HT3 F3
 go_wp2
 refine bodyPost_ret (v := .tuple #[.pointer (some ⟨nb, 0, none⟩), .pointer (some ⟨pu, 0, none⟩)]) (by simp [results, Tryz.results34, go_sem]) rfl ?_
 exact ⟨_, nb, mb, A, cap, cl, sl, S, pu, Au, cu, rfl, HT4.out, HU.out, B4.out⟩
end Go.Proofs.YtmaknddlgppinaaGreatDoor
