/-
  CUT and joined from the texts of this seat: Nf
-/
import Derived.Test.YtmaknddlgppinaaGreatDoorT40
import Derived.Test.YtmaknddlgppinaaGreatDoorT47
set_option linter.unusedVariables false
set_option linter.unusedSimpArgs false
namespace Go.Proofs.YtmaknddlgppinaaGreatDoor
open Go.Joins Go.ChangeShapes Go.WideShapes Go.ChangeAt Go.RowKit
section
variable {H : Type} {enc : TypeId × Value → H} {w : World} {base : Nat} {spare : Nat → Bool} {held : Bool}
theorem k31 : Tryz.prog.cellsOf 31 = 2 := by kernel_rfl
theorem k9' : Tryz.prog.cellsOf 9 = 1 := by kernel_rfl
set_option maxRecDepth 100000 in
theorem trod_ty {fuel : Nat} {cs : List Value} {x : DataW H × List MemPlace} (h : DataW.trod enc Tryz.prog w base spare held fuel 31 cs = some x) : ∃ t : Int × ByteArray, cs = [.int .i64 t.1, .string t.2] := by
 obtain ⟨xs, m, _, rfl, hl, hlx, hf⟩ := DataW.trod_struct Tryz.underlying31 h
 rw [k31] at hl
 obtain ⟨c0, c1, rfl⟩ : ∃ c0 c1, cs = [c0, c1] := by
  match cs, hl with
  | [c0, c1], _ => exact ⟨c0, c1, rfl⟩
 have hlx' : xs.length = 2 := hlx
 have h0 := hf 0 _ rfl
 have e0 : xs[0]? = some xs[0] := List.getElem?_eq_getElem (by omega)
 rw [e0] at h0
 obtain ⟨z0, hz0, _, hw0⟩ := DataW.trod_int Tryz.underlying3 h0
 obtain rfl : c0 = .int .i64 z0 := by simpa [k3'] using hz0
 have h1 := hf 1 _ rfl
 have e1 : xs[1]? = some xs[1] := List.getElem?_eq_getElem (by omega)
 rw [e1] at h1
 obtain ⟨s, hs, _, _⟩ := DataW.trod_string Tryz.underlying9 h1
 obtain rfl : c1 = .string s := by simpa [k9'] using hs
 exact ⟨(z0, s), rfl⟩
set_option maxRecDepth 100000 in
theorem trod_known {fuel : Nat} {cs : List Value} {x : DataW H × List MemPlace} (h : DataW.trod enc Tryz.prog w base spare held fuel 64 cs = some x) : ∃ q : KQ, cs = [.int .i64 q.1, .int .i64 q.2.1, .string q.2.2.1, .int .i64 q.2.2.2] := by
 obtain ⟨xs, m, _, rfl, hl, hlx, hf⟩ := DataW.trod_struct Tryz.underlying64 h
 have hC : Tryz.prog.cellsOf 64 = 4 := by kernel_rfl
 rw [hC] at hl
 obtain ⟨c0, c1, c2, c3, rfl⟩ : ∃ c0 c1 c2 c3, cs = [c0, c1, c2, c3] := by
  match cs, hl with
  | [c0, c1, c2, c3], _ => exact ⟨c0, c1, c2, c3, rfl⟩
 have hlx' : xs.length = 3 := hlx
 have h0 := hf 0 _ rfl
 have e0 : xs[0]? = some xs[0] := List.getElem?_eq_getElem (by omega)
 rw [e0] at h0
 obtain ⟨z0, hz0, _, hw0⟩ := DataW.trod_int Tryz.underlying3 h0
 obtain rfl : c0 = .int .i64 z0 := by simpa [k3'] using hz0
 have h1 := hf 1 _ rfl
 have e1 : xs[1]? = some xs[1] := List.getElem?_eq_getElem (by omega)
 rw [e1] at h1
 obtain ⟨⟨d, s⟩, ht⟩ := trod_ty h1
 obtain ⟨rfl, rfl⟩ : c1 = .int .i64 d ∧ c2 = .string s := by simpa [k31] using ht
 have h2 := hf 2 _ rfl
 have e2 : xs[2]? = some xs[2] := List.getElem?_eq_getElem (by omega)
 rw [e2] at h2
 obtain ⟨z2, hz2, _, hw2⟩ := DataW.trod_int Tryz.underlying3 h2
 obtain rfl : c3 = .int .i64 z2 := by simpa [k3'] using hz2
 exact ⟨(z0, d, s, z2), rfl⟩
theorem open_knowns {fuel : Nat} {v : Value} {x : DataW H × List MemPlace} (h : DataW.trod enc Tryz.prog w base spare held fuel 60 [v] = some x) : ∃ l : List KQ, KRow w.heap.size w v l := by
 obtain ⟨A, cap, ps, rfl, hl, hm, hq, hr⟩ := open_rowsN (fun (q : KQ) cs => cs = [.int .i64 q.1, .int .i64 q.2.1, .string q.2.2.1, .int .i64 q.2.2.2]) Tryz.underlying60 (size := 4) (by kernel_rfl) (by omega) (fun n cs y h => trod_known h) h
 have e : ps.flatMap (·.2) = kcells (ps.map (·.1)) := by
  clear hl hm hr h
  induction ps with
  | nil => rfl
  | cons p r ih =>
   rw [List.flatMap_cons, ih (fun q hq' => hq q (by simp [hq'])), hq p (by simp)]
   rfl
 exact ⟨ps.map (·.1), A, cap, by rw [List.length_map], by rw [List.length_map]; exact hl, by rw [List.length_map]; exact hm, by rw [List.length_map, ← e]; exact hr⟩
theorem open_types {fuel : Nat} {v : Value} {x : DataW H × List MemPlace} (h : DataW.trod enc Tryz.prog w base spare held fuel 39 [v] = some x) : ∃ l : List (Int × ByteArray), YRow w.heap.size w v l := by
 obtain ⟨A, cap, ps, rfl, hl, hm, hq, hr⟩ := open_rowsN (fun (t : Int × ByteArray) cs => cs = [.int .i64 t.1, .string t.2]) Tryz.underlying39 (size := 2) (by kernel_rfl) (by omega) (fun n cs y h => trod_ty h) h
 have e : ps.flatMap (·.2) = ycells (ps.map (·.1)) := by
  clear hl hm hr h
  induction ps with
  | nil => rfl
  | cons p r ih =>
   rw [List.flatMap_cons, ih (fun q hq' => hq q (by simp [hq'])), hq p (by simp)]
   rfl
 exact ⟨ps.map (·.1), A, cap, by rw [List.length_map], by rw [List.length_map]; exact hl, by rw [List.length_map]; exact hm, by rw [List.length_map, ← e]; exact hr⟩
end
end Go.Proofs.YtmaknddlgppinaaGreatDoor
