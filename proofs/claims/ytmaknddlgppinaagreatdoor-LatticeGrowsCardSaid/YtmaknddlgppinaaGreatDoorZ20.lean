/-
  CUT and joined from the texts of this seat: D6 D7 E1 D9
-/
import Derived.Test.YtmaknddlgppinaaGreatDoorZ19
import Derived.Deep.LoopGhost
import Derived.RegionTactic
import Derived.BigRegion
set_option linter.unusedVariables false
set_option linter.unusedSimpArgs false
namespace Go.Proofs.YtmaknddlgppinaaGreatDoor
open Go.RowKit
theorem tw_cons (c : UInt8) (t : List UInt8) : tw (c :: t) = if c = 59 then [] else c :: tw t := by
 unfold tw
 rw [List.takeWhile_cons]
 by_cases h : c = 59
 ·subst h; simp
 ·rw [if_pos (by simpa using h), if_neg h]
theorem tw_at (l : List UInt8) (j : Nat) (h : j < (tw l).length) : at0 l j ≠ 59 := by
 induction j generalizing l with
 | zero =>
  cases l with
  | nil => simp [tw] at h
  | cons c t =>
   rw [tw_cons] at h
   by_cases hc : c = 59
   ·rw [if_pos hc] at h; simp at h
   ·intro e
    exact hc (UInt8.toNat_inj.1 e)
 | succ j ih =>
  cases l with
  | nil => simp [tw] at h
  | cons c t =>
   rw [tw_cons] at h
   by_cases hc : c = 59
   ·rw [if_pos hc] at h; simp at h
   ·rw [if_neg hc] at h
    exact ih t (by simpa using h)
theorem tw_end (l : List UInt8) (h : (tw l).length < l.length) : at0 l (tw l).length = 59 := by
 induction l with
 | nil => simp at h
 | cons c t ih =>
  rw [tw_cons] at h ⊢
  by_cases hc : c = 59
  ·rw [if_pos hc]; subst hc; rfl
  ·rw [if_neg hc] at h ⊢
   exact ih (by simpa using h)
theorem at_drop (s : ByteArray) (k j : Nat) (h : k + j < s.size) : (s[k + j]'h).toNat = at0 ((L s).drop k) j := by
 rw [at0_get, at0_drop]
/-- The head of loop 1's frame: what the front of the text is. -/
inductive Front (s : ByteArray) (k : Nat) : Prop
 | many : 4 < k → firstL (L s) = none → Front s k
 | short : k ≤ 4 → s.size ≤ k → firstL (L s) = none → Front s k
 | int : k ≤ 4 → (hk : k < s.size) → ((s[k]'hk).toNat : Int) = 73 → firstL (L s) = some (k, []) → Front s k
 | other : k ≤ 4 → (hk : k < s.size) → (((s[k]'hk).toNat : Int) == 91) = false → (((s[k]'hk).toNat : Int) == 73) = false → (((s[k]'hk).toNat : Int) == 76) = false → firstL (L s) = none → Front s k
 | name (m : Nat) : k ≤ 4 → (hk : k < s.size) → ((s[k]'hk).toNat : Int) = 76 → (∀ j (h : k + 1 + j < s.size), j < m → (((s[k + 1 + j]'h).toNat : Int) == 59) = false) →
   k + 1 + m ≤ s.size → (∀ h : k + 1 + m < s.size, ((s[k + 1 + m]'h).toNat : Int) = 59) →
   firstL (L s) = (if k + 1 + m < s.size ∧ nameL (L (s.extract (k + 1) (k + 1 + m))) = true then some (k, L (s.extract (k + 1) (k + 1 + m))) else none) → nameL [] = false → Front s k
theorem front (s : ByteArray) : Front s (lead (L s)) := by
 obtain ⟨k, hk⟩ : ∃ k, lead (L s) = k := ⟨_, rfl⟩
 have hle := lead_le_size s
 rw [hk] at hle ⊢
 by_cases h4 : 4 < k
 ·exact .many h4 (by unfold firstL; rw [hk, if_pos h4])
 have hfl : firstL (L s) = (baseL ((L s).drop k)).map fun n => (k, n) := by unfold firstL; rw [hk, if_neg h4]
 cases hd : (L s).drop k with
 | nil =>
  rw [List.drop_eq_nil_iff, ← size_L] at hd
  exact .short (by omega) hd (by rw [hfl, List.drop_eq_nil_iff.2 (by rw [← size_L]; exact hd)]; rfl)
 | cons c t =>
  have hks : k < s.size := by
   have := congrArg List.length hd
   rw [List.length_drop, ← size_L] at this
   simp at this
   omega
  have hc : (s[k]'hks).toNat = c.toNat := by
   have := at_drop s k 0 hks
   rw [hd] at this
   exact this
  rw [hd] at hfl
  have hts : t.length = s.size - (k + 1) := by
   have := congrArg List.length hd
   rw [List.length_drop, ← size_L] at this
   simp at this
   omega
  by_cases h73 : c = 73
  ·refine .int (by omega) hks (by rw [hc, h73]; rfl) ?_
   rw [hfl, baseL_cons, if_pos h73]
   rfl
  by_cases h76 : c = 76
  ·have hdt : (L s).drop (k + 1) = t := by rw [← List.drop_drop, hd]; rfl
   have hx : L (s.extract (k + 1) (k + 1 + (tw t).length)) = tw t := by
    rw [L_extract, hdt]
    have : k + 1 + (tw t).length - (k + 1) = (tw t).length := by omega
    rw [this]
    exact tw_take t
   have htl := tw_le t
   refine .name (tw t).length (by omega) hks (by rw [hc, h76]; rfl) ?_ (by omega) ?_ ?_ nameL_nil
   ·intro j h hj
    rw [at_drop, hdt, beq_eq_false_iff_ne]
    have := tw_at t j hj
    omega
   ·intro h
    rw [at_drop, hdt, tw_end t (by omega)]
    rfl
   ·rw [hx, hfl, baseL_cons, if_neg h73, if_pos h76]
    show Option.map _ (if (tw t).length < t.length ∧ nameL (tw t) = true then some (tw t) else none) = _
    by_cases hh : (tw t).length < t.length ∧ nameL (tw t) = true
    ·rw [if_pos hh, if_pos ⟨by omega, hh.2⟩]; rfl
    ·rw [if_neg hh, if_neg (fun h => hh ⟨by omega, h.2⟩)]; rfl
  ·have h91 : c ≠ 91 := by
    intro e
    have := lead_end (L s) (by rw [hk, ← size_L]; exact hks)
    rw [hk] at this
    apply this
    have e2 := at0_get s k hks
    rw [hc, e] at e2
    exact e2.symm
   refine .other (by omega) hks (by rw [hc]; exact beq_toNat (x := 91) (by omega) h91) (by rw [hc]; exact beq_toNat (x := 73) (by omega) h73) (by rw [hc]; exact beq_toNat (x := 76) (by omega) h76) ?_
   rw [hfl, baseL_cons, if_neg h73, if_neg h76]
   rfl
set_option maxRecDepth 1000000 in
set_option maxHeartbeats 3200000 in
theorem refNext_any (s : ByteArray) (w : World) (hs : s.size ≤ 1000000) :
  Calls Tryz.prog 171 #[.string s] w fun e w' => e = .returned (ftV (firstL (L s))) ∧ Below w.heap.size w w' := by
 have HFR := Lib.hid (front s)
 obtain ⟨m, hm⟩ : ∃ m, lead (L s) = m := ⟨_, rfl⟩
 have hml := lead_le_size s
 have HAT : Hid (∀ k (hk : k < s.size), k < m → ((s[k]'hk).toNat : Int) = 91) := fun k hk h => by
  rw [at0_get s k hk]
  exact congrArg _ (lead_at (L s) k (by omega))
 have HEND : Hid (∀ (hk : m < s.size), (((s[m]'hk).toNat : Int) == 91) = false) := fun hk => by
  rw [at0_get s _ hk, beq_eq_false_iff_ne]
  have := lead_end (L s) (by rw [← size_L, hm]; exact hk)
  rw [hm] at this
  intro e
  exact this (by exact_mod_cast e)
 rw [hm] at HFR hml
 have HBE := Lib.hid ((Below.refl w.heap.size w).alloc (Nat.le_refl _) (.cells #[.int .i64 0, .string ⟨#[]⟩] 31))
 clear hm
 go_enter Tryz.func171, Tryz.ntmps171
 go_wp2
 go_loopw [] (fun wr => ∃ k : Nat, k ≤ m ∧ wr = (w.alloc (.cells #[.int .i64 0, .string ⟨#[]⟩] 31)).alloc (.cells #[.int .i64 (k : Int), .string ⟨#[]⟩] 31)) (fun wr => m - (intOf ((wr.cell? ⟨w.heap.size + 1, 0, none⟩).getD undef)).toNat)
 case atStart => exact ⟨0, Nat.zero_le _, rfl⟩
 case round =>
  obtain ⟨k, hk, rfl⟩ := hrel
  by_cases hlt : k < m
  ·have hz : k < s.size := by omega
   have hb := HAT.out k hz hlt
   go_wp2
   go_roundw
   case rel => exact ⟨k + 1, by omega, by simp⟩
   case measure => simp [intOf]; omega
  ·obtain rfl : k = m := by omega
   have hks : k < s.size → (((k : Nat) : Int) == (s.size : Int)) = false := fun h => by rw [beq_eq_false_iff_ne]; omega
   have HKS := Lib.hid hks
   clear hks
   have FR := HFR.out
   clear HFR HAT HBE hlt hk
   rcases FR with ⟨h4, hf⟩ | ⟨h4, hz, hf⟩ | ⟨h4, hz, hat, hf⟩ | ⟨h4, hz, h91, h73, h76, hf⟩ | ⟨m, h4, hz, hat, hne, hmz, hend, hf, hnn⟩
   ·have HF := Lib.hid (show ftV (firstL (L s)) = .tuple #[.agg #[.int .i64 0, .string ⟨#[]⟩], .int .i64 0] by rw [hf]; rfl)
    have hor : s.size ≤ k ∨ k < s.size := by omega
    clear hf
    rcases hor with hz | hz
    rotate_left
    have hne := HEND.out hz
    all_goals
     go_wp2
     refine bodyPost_ret (v := .tuple #[.agg #[.int .i64 0, .string ⟨#[]⟩], .int .i64 0]) (by simp [results, Tryz.results171, go_sem]) rfl ⟨by rw [HF.out], ?_⟩
     exact ((Below.refl _ _).alloc (Nat.le_refl _) _).alloc (by simp) _
   ·have HF := Lib.hid (show ftV (firstL (L s)) = .tuple #[.agg #[.int .i64 0, .string ⟨#[]⟩], .int .i64 0] by rw [hf]; rfl)
    clear hf
    obtain rfl : k = s.size := by omega
    go_wp2
    refine bodyPost_ret (v := .tuple #[.agg #[.int .i64 0, .string ⟨#[]⟩], .int .i64 0]) (by simp [results, Tryz.results171, go_sem]) rfl ⟨by rw [HF.out], ?_⟩
    exact ((Below.refl _ _).alloc (Nat.le_refl _) _).alloc (by simp) _
   ·have HF := Lib.hid (show ftV (firstL (L s)) = .tuple #[.agg #[.int .i64 (k : Int), .string ⟨#[]⟩], .int .i64 ((k + 1 : Nat) : Int)] by rw [hf]; show Value.tuple #[_, .int .i64 ((tlen (k, []) : Nat) : Int)] = _; rw [lenB_tlen]; rfl)
    have hks := HKS.out hz
    clear hf
    go_wp2
    refine bodyPost_ret (v := .tuple #[.agg #[.int .i64 (k : Int), .string ⟨#[]⟩], .int .i64 ((k + 1 : Nat) : Int)]) (by simp [results, Tryz.results171, go_sem]) rfl ⟨by rw [HF.out], ?_⟩
    exact ((Below.refl _ _).alloc (Nat.le_refl _) _).alloc (by simp) _
   ·have HF := Lib.hid (show ftV (firstL (L s)) = .tuple #[.agg #[.int .i64 0, .string ⟨#[]⟩], .int .i64 0] by rw [hf]; rfl)
    have hks := HKS.out hz
    have h76' : (((s[k]'hz).toNat : Int) != 76) = true := by rw [bne, h76]; rfl
    clear hf
    go_wp2
    refine bodyPost_ret (v := .tuple #[.agg #[.int .i64 0, .string ⟨#[]⟩], .int .i64 0]) (by simp [results, Tryz.results171, go_sem]) rfl ⟨by rw [HF.out], ?_⟩
    exact ((Below.refl _ _).alloc (Nat.le_refl _) _).alloc (by simp) _
   ·obtain ⟨x, hx⟩ : ∃ x, s.extract (k + 1) (k + 1 + m) = x := ⟨_, rfl⟩
    have hxs : x.size ≤ 1000000 := by rw [← hx, size_L, L_extract, List.length_take, List.length_drop, ← size_L]; omega
    rw [hx] at hf
    have HX := Lib.hid hx
    have HN := fun W => Lib.hid (refName_any x W hxs)
    have hks := HKS.out hz
    have HNE := Lib.hid hne
    have HE59 := Lib.hid hend
    have HF0 := Lib.hid hf
    clear hf hx hne hend
    go_wp2
    go_loopw [6] (fun e wr => ∃ j : Nat, j ≤ m ∧ e = .int .i64 ((k + 1 + j : Nat) : Int) ∧ wr = (w.alloc (.cells #[.int .i64 0, .string ⟨#[]⟩] 31)).alloc (.cells #[.int .i64 (k : Int), .string ⟨#[]⟩] 31)) (fun e _ => s.size - (intOf e).toNat)
    case atStart => exact ⟨0, Nat.zero_le _, by go_num, rfl⟩
    case round =>
     obtain ⟨j, hj, rfl, rfl⟩ := hrel
     by_cases hlt : j < m
     ·have hz2 : k + 1 + j < s.size := by omega
      have hb := HNE.out j hz2 hlt
      go_wp2
      refine ⟨⟨j + 1, by omega, by go_num, trivial⟩, ?_⟩
      simp [intOf]
      omega
     ·obtain rfl : j = m := by omega
      have hex : s.extract (k + 1) (k + 1 + j) = x := HX.out
      by_cases hje : k + 1 + j < s.size
      ·have hb := HE59.out hje
       have hn1 : ((k : Int) + 1 + (j : Int) == (s.size : Int)) = false := by rw [beq_eq_false_iff_ne]; omega
       cases hnm : nameL (L x) with
       | true =>
        have HF := Lib.hid (show ftV (firstL (L s)) = .tuple #[.agg #[.int .i64 (k : Int), .string x], .int .i64 ((k + 1 + j + 1 : Nat) : Int)] by
         have hne : L x ≠ [] := by intro e; rw [e, nameL_nil] at hnm; exact absurd hnm (by simp)
         have hxl : (L x).length = j := by rw [← hex, L_extract, List.length_take, List.length_drop, ← size_L]; omega
         rw [HF0.out, if_pos ⟨hje, hnm⟩]
         show Value.tuple #[.agg #[_, .string (mkB (L x))], .int .i64 ((tlen (k, L x) : Nat) : Int)] = _
         rw [lenB_tlen, mkB_L]
         unfold lenB
         rw [if_neg hne, hxl]
         have : k + (j + 2) = k + 1 + j + 1 := by omega
         rw [this])
        rw [hnm] at HN
        clear hnm
        go_wp2_with fail
        refine (HN _).out.mono ?_
        rintro e w2 ⟨rfl, hb2⟩
        have hs2 := hb2.size
        have hz2 : w.heap.size + 1 < w2.heap.size := by simp at hs2; omega
        have hz3 : w.heap.size < w2.heap.size := by omega
        have R2 := Below.keep hb2 (q := w.heap.size) (by simp; omega) (heap_alloc_lt (heap_new w _))
        have T2 := Below.keep hb2 (q := w.heap.size + 1) (by simp) (heap_new2 w _ _)
        have c0 : w2.cell? ⟨w.heap.size, 0, none⟩ = some (.int .i64 0) := cells_of R2 0
        have c1 : w2.cell? ⟨w.heap.size, 1, none⟩ = some (.string ⟨#[]⟩) := cells_of R2 1
        have f0 := free_of R2 0
        have f1 := free_of R2 1
        have c2 : w2.cell? ⟨w.heap.size + 1, 0, none⟩ = some (.int .i64 (k : Int)) := cells_of T2 0
        have c3 : w2.cell? ⟨w.heap.size + 1, 1, none⟩ = some (.string x) := cells_of T2 1
        have HB := Lib.hid ((((Below.refl w.heap.size w).alloc (Nat.le_refl _) _).alloc (by simp) _).trans (hb2.mono (by simp; omega)))
        clear R2 T2 hb2 hs2
        go_wp2
        refine bodyPost_ret (v := .tuple #[.agg #[.int .i64 (k : Int), .string x], .int .i64 ((k + 1 + j + 1 : Nat) : Int)]) (by simp [results, Tryz.results171, go_sem, c0, c1]) rfl ⟨by rw [HF.out], ?_⟩
        exact (HB.out.setCell (Nat.le_refl _) _).setCell (Nat.le_refl _) _
       | false =>
        have HF := Lib.hid (show ftV (firstL (L s)) = .tuple #[.agg #[.int .i64 0, .string ⟨#[]⟩], .int .i64 0] by
         rw [HF0.out, if_neg (by rw [hnm]; simp)]
         rfl)
        rw [hnm] at HN
        clear hnm
        go_wp2_with fail
        refine (HN _).out.mono ?_
        rintro e w2 ⟨rfl, hb2⟩
        have hs2 := hb2.size
        have hz2 : w.heap.size + 1 < w2.heap.size := by simp at hs2; omega
        have hz3 : w.heap.size < w2.heap.size := by omega
        have R2 := Below.keep hb2 (q := w.heap.size) (by simp; omega) (heap_alloc_lt (heap_new w _))
        have T2 := Below.keep hb2 (q := w.heap.size + 1) (by simp) (heap_new2 w _ _)
        have c0 : w2.cell? ⟨w.heap.size, 0, none⟩ = some (.int .i64 0) := cells_of R2 0
        have c1 : w2.cell? ⟨w.heap.size, 1, none⟩ = some (.string ⟨#[]⟩) := cells_of R2 1
        have f0 := free_of R2 0
        have f1 := free_of R2 1
        have c2 : w2.cell? ⟨w.heap.size + 1, 0, none⟩ = some (.int .i64 (k : Int)) := cells_of T2 0
        have c3 : w2.cell? ⟨w.heap.size + 1, 1, none⟩ = some (.string x) := cells_of T2 1
        have HB := Lib.hid ((((Below.refl w.heap.size w).alloc (Nat.le_refl _) _).alloc (by simp) _).trans (hb2.mono (by simp; omega)))
        clear R2 T2 hb2 hs2
        go_wp2
        refine bodyPost_ret (v := .tuple #[.agg #[.int .i64 0, .string ⟨#[]⟩], .int .i64 0]) (by simp [results, Tryz.results171, go_sem, c0, c1]) rfl ⟨by rw [HF.out], ?_⟩
        exact (HB.out.setCell (Nat.le_refl _) _).setCell (Nat.le_refl _) _
      ·have hn1 : ((k : Int) + 1 + (j : Int) == (s.size : Int)) = true := by rw [beq_iff_eq]; omega
       have HF := Lib.hid (show ftV (firstL (L s)) = .tuple #[.agg #[.int .i64 0, .string ⟨#[]⟩], .int .i64 0] by
        rw [HF0.out, if_neg (fun h => hje h.1)]
        rfl)
       generalize nameL (L x) = nb at *
       go_wp2_with fail
       refine (HN _).out.mono ?_
       rintro e w2 ⟨rfl, hb2⟩
       have hs2 := hb2.size
       have hz2 : w.heap.size + 1 < w2.heap.size := by simp at hs2; omega
       have hz3 : w.heap.size < w2.heap.size := by omega
       have R2 := Below.keep hb2 (q := w.heap.size) (by simp; omega) (heap_alloc_lt (heap_new w _))
       have T2 := Below.keep hb2 (q := w.heap.size + 1) (by simp) (heap_new2 w _ _)
       have c0 : w2.cell? ⟨w.heap.size, 0, none⟩ = some (.int .i64 0) := cells_of R2 0
       have c1 : w2.cell? ⟨w.heap.size, 1, none⟩ = some (.string ⟨#[]⟩) := cells_of R2 1
       have f0 := free_of R2 0
       have f1 := free_of R2 1
       have c2 : w2.cell? ⟨w.heap.size + 1, 0, none⟩ = some (.int .i64 (k : Int)) := cells_of T2 0
       have c3 : w2.cell? ⟨w.heap.size + 1, 1, none⟩ = some (.string x) := cells_of T2 1
       have HB := Lib.hid ((((Below.refl w.heap.size w).alloc (Nat.le_refl _) _).alloc (by simp) _).trans (hb2.mono (by simp; omega)))
       clear R2 T2 hb2 hs2
       go_wp2
       refine bodyPost_ret (v := .tuple #[.agg #[.int .i64 0, .string ⟨#[]⟩], .int .i64 0]) (by simp [results, Tryz.results171, go_sem, c0, c1]) rfl ⟨by rw [HF.out], ?_⟩
       exact (HB.out.setCell (Nat.le_refl _) _).setCell (Nat.le_refl _) _
set_option maxRecDepth 1000000 in
set_option maxHeartbeats 1600000 in
theorem refField_any (s : ByteArray) (w : World) (hs : s.size ≤ 1000000) :
  Calls Tryz.prog 140 #[.string s] w fun e w' => e = .returned (fdV (fieldL (L s))) ∧ Below w.heap.size w w' := by
 have HBE := Lib.hid ((Below.refl w.heap.size w).alloc (Nat.le_refl _) (.cells #[.int .i64 0, .string ⟨#[]⟩] 31))
 have HN := fun W => Lib.hid (refNext_any s W hs)
 cases hf : firstL (L s) with
 | none =>
  have hv : fieldL (L s) = none := by unfold fieldL; rw [hf]
  rw [hv]
  rw [hf, ftV_none] at HN
  show Calls Tryz.prog 140 #[.string s] w fun e w' => e = .returned (.tuple #[.agg #[.int .i64 0, .string ⟨#[]⟩], .int .i64 9]) ∧ Below w.heap.size w w'
  clear hf hv
  go_enter Tryz.func140, Tryz.ntmps140
  go_wp2_with fail
  refine (HN _).out.mono ?_
  rintro e w2 ⟨rfl, hb2⟩
  have hs2 := hb2.size
  have hz2 : w.heap.size < w2.heap.size := by simp at hs2; omega
  have R2 := Below.keep hb2 (q := w.heap.size) (by simp) (heap_new w _)
  have c0 : w2.cell? ⟨w.heap.size, 0, none⟩ = some (.int .i64 0) := cells_of R2 0
  have c1 : w2.cell? ⟨w.heap.size, 1, none⟩ = some (.string ⟨#[]⟩) := cells_of R2 1
  have f0 := free_of R2 0
  have f1 := free_of R2 1
  have HB := Lib.hid (HBE.out.trans (hb2.mono (by simp)))
  clear R2 hb2 hs2
  go_wp2
  refine bodyPost_ret (v := .tuple #[.agg #[.int .i64 0, .string ⟨#[]⟩], .int .i64 9]) (by simp [results, Tryz.results140, go_sem, c0, c1, hz2]) rfl ⟨rfl, ?_⟩
  exact (((HB.out.setCell (Nat.le_refl _) _).setCell (Nat.le_refl _) _).alloc (by simp; omega) _)
 | some p =>
  have htp := tlen_pos p
  rw [hf, ftV_some] at HN
  have hn0 : (((tlen p : Nat) : Int) == 0) = false := by rw [beq_eq_false_iff_ne]; omega
  by_cases hl : tlen p = (L s).length
  ·have hv : fieldL (L s) = some p := by unfold fieldL; rw [hf]; exact if_pos hl
   rw [hv]
   have hl' : tlen p = s.size := by rw [hl, size_L]
   rw [hl'] at HN hn0
   show Calls Tryz.prog 140 #[.string s] w fun e w' => e = .returned (.tuple #[.agg #[.int .i64 p.1, .string (mkB p.2)], .int .i64 0]) ∧ Below w.heap.size w w'
   generalize mkB p.2 = nb at *
   generalize p.1 = d at *
   clear hf hv hl hl' htp
   go_enter Tryz.func140, Tryz.ntmps140
   go_wp2_with fail
   refine (HN _).out.mono ?_
   rintro e w2 ⟨rfl, hb2⟩
   have hs2 := hb2.size
   have hz2 : w.heap.size < w2.heap.size := by simp at hs2; omega
   have R2 := Below.keep hb2 (q := w.heap.size) (by simp) (heap_new w _)
   have c0 : w2.cell? ⟨w.heap.size, 0, none⟩ = some (.int .i64 0) := cells_of R2 0
   have c1 : w2.cell? ⟨w.heap.size, 1, none⟩ = some (.string ⟨#[]⟩) := cells_of R2 1
   have f0 := free_of R2 0
   have f1 := free_of R2 1
   have HB := Lib.hid (HBE.out.trans (hb2.mono (by simp)))
   clear R2 hb2 hs2
   go_wp2
   refine bodyPost_ret (v := .tuple #[.agg #[.int .i64 d, .string nb], .int .i64 0]) (by simp [results, Tryz.results140, go_sem, c0, c1, hz2]) rfl ⟨rfl, ?_⟩
   exact (((HB.out.setCell (Nat.le_refl _) _).setCell (Nat.le_refl _) _).alloc (by simp; omega) _)
  ·have hv : fieldL (L s) = none := by unfold fieldL; rw [hf]; exact if_neg hl
   rw [hv]
   have hl1 : (((tlen p : Nat) : Int) == (s.size : Int)) = false := by rw [beq_eq_false_iff_ne, size_L]; omega
   have hl2 : (((tlen p : Nat) : Int) != (s.size : Int)) = true := by rw [bne, hl1]; rfl
   show Calls Tryz.prog 140 #[.string s] w fun e w' => e = .returned (.tuple #[.agg #[.int .i64 0, .string ⟨#[]⟩], .int .i64 9]) ∧ Below w.heap.size w w'
   generalize mkB p.2 = nb at *
   generalize tlen p = m at *
   generalize p.1 = d at *
   clear hf hv hl htp
   go_enter Tryz.func140, Tryz.ntmps140
   go_wp2_with fail
   refine (HN _).out.mono ?_
   rintro e w2 ⟨rfl, hb2⟩
   have hs2 := hb2.size
   have hz2 : w.heap.size < w2.heap.size := by simp at hs2; omega
   have R2 := Below.keep hb2 (q := w.heap.size) (by simp) (heap_new w _)
   have c0 : w2.cell? ⟨w.heap.size, 0, none⟩ = some (.int .i64 0) := cells_of R2 0
   have c1 : w2.cell? ⟨w.heap.size, 1, none⟩ = some (.string ⟨#[]⟩) := cells_of R2 1
   have f0 := free_of R2 0
   have f1 := free_of R2 1
   have HB := Lib.hid (HBE.out.trans (hb2.mono (by simp)))
   clear R2 hb2 hs2
   go_wp2
   refine bodyPost_ret (v := .tuple #[.agg #[.int .i64 0, .string ⟨#[]⟩], .int .i64 9]) (by simp [results, Tryz.results140, go_sem, c0, c1, hz2]) rfl ⟨rfl, ?_⟩
   exact (((HB.out.setCell (Nat.le_refl _) _).setCell (Nat.le_refl _) _).alloc (by simp; omega) _)
/-- What 'Method' answers: the arguments, what is returned, is it void, the error. -/
def res : Option (List Ty × Option Ty) → List Ty × Ty × Bool × Int
 | none => ([], (0, []), false, 9)
 | some (xs, q) => if xs.length ≤ 16 then (xs, q.getD (0, []), q.isNone, 0) else ([], (0, []), false, 3)
theorem ret_i {a b : Int} (h : a = b) : Ending.returned (.int .i64 a) = .returned (.int .i64 b) := by rw [h]
theorem ret_b {a b : Bool} (h : a = b) : Ending.returned (.bool a) = .returned (.bool b) := by rw [h]
theorem own_form {w : World} {base : Nat} {t : TypeId} {s : Nat} {v : Value} {n : Nat} {xs : List Value} (h : w.ownsRow base t s v n xs) : ∃ a c, v = .slice a n c := by
 rcases h.2 with ⟨rfl, h0⟩ | ⟨g, cap, cur, rfl, hr⟩
 ·exact ⟨_, _, by rw [h0]⟩
 ·exact ⟨_, _, rfl⟩
/-- The error of a name constant's text; of a name; of the descriptors of a type and of a signature. -/
def runesE (s : ByteArray) : Int := if encE (L s) = 0 then (if 2000 < (runes (L s)).length then 2 else 0) else encE (L s)
def nameE (s : ByteArray) : Int := if nameL (L s) = true then 0 else 8
def typeE (s : ByteArray) : Int := match fieldL (L s) with | some _ => 0 | none => 9
def sigE (s : ByteArray) : Int := (res (methL (L s))).2.2.2
def pairE (p : List Cn) (i j : Int) (E : ByteArray → Int) : Int := if nameE (textP p i) = 0 then E (textP p j) else nameE (textP p i)
/-- No text is greater than memory. -/
def Texts (p : List Cn) : Prop := ∀ c ∈ p, c.text.size ≤ 1000000000000000
set_option maxRecDepth 1000000 in
set_option maxHeartbeats 800000 in
theorem nameErr_any (s : ByteArray) (w : World) :
  Calls Tryz.prog 190 #[.string s] w fun e w' => e = .returned (.int .i64 (nameE s)) ∧ Below w.heap.size w w' := by
 have HN := fun W => Lib.hid (Name_any s W)
 have HE := Lib.hid (show nameE s = if nameL (L s) = true then 0 else 8 from rfl)
 obtain ⟨b, hb⟩ : ∃ b, nameL (L s) = b := ⟨_, rfl⟩
 rw [hb] at HN HE
 clear hb
 cases b
 all_goals
  go_enter Tryz.func190, Tryz.ntmps190
  go_wp2_with fail
  refine (HN _).out.mono ?_
  rintro e w1 ⟨rfl, hb⟩
  go_wp2
  go_ret
  exact ⟨ret_i HE.out.symm, hb⟩
set_option maxRecDepth 1000000 in
set_option maxHeartbeats 800000 in
theorem runesErr_any (s : ByteArray) (w : World) (hs : s.size ≤ 1000000000000000) :
  Calls Tryz.prog 189 #[.string s] w fun e w' => e = .returned (.int .i64 (runesE s)) ∧ Below w.heap.size w w' := by
 have HN := fun W => Lib.hid (Encode_any s W (by omega))
 have HL := fun W => Lib.hid (Len_any s W (by unfold maxLen; omega))
 have HE := Lib.hid (show runesE s = if encE (L s) = 0 then (if 2000 < (runes (L s)).length then 2 else 0) else encE (L s) from rfl)
 have h3 : encE (L s) = 0 ∨ encE (L s) = 2 ∨ encE (L s) = 4 := by
  unfold encE
  split
  ·split
   ·exact .inl rfl
   ·exact .inr (.inl rfl)
  ·exact .inr (.inr rfl)
 obtain ⟨A, hA⟩ : ∃ A, strV (encA (L s)) = .string A := ⟨_, rfl⟩
 rw [hA] at HN
 generalize (runes (L s)).length = n at *
 generalize encE (L s) = x at *
 clear hA
 rcases h3 with rfl | rfl | rfl
 ·by_cases hn : 2000 < n
  all_goals
   have hn' : (2000 < (n : Int)) ∨ (n : Int) ≤ 2000 := by omega
   go_enter Tryz.func189, Tryz.ntmps189
   go_wp2_with fail
   refine (HN _).out.mono ?_
   rintro e w1 ⟨rfl, hb⟩
   go_wp2_with fail
   refine (HL _).out.mono ?_
   rintro e w2 ⟨rfl, pos, rfl⟩
   have HB := Lib.hid (hb.alloc hb.size (.stringIter s pos))
   clear hb
   go_wp2
   go_ret
   exact ⟨ret_i (by rw [HE.out]; simp [hn]), HB.out⟩
 all_goals
  go_enter Tryz.func189, Tryz.ntmps189
  go_wp2_with fail
  refine (HN _).out.mono ?_
  rintro e w1 ⟨rfl, hb⟩
  go_wp2
  go_ret
  exact ⟨ret_i HE.out.symm, hb⟩
theorem FileAt.max {B : Nat} {w : World} {v : Value} {f : Fl} (h : FileAt B w v f) : f.pool.length ≤ 9223372036854775807 ∧ f.ifs.length ≤ 9223372036854775807 ∧ f.fds.length ≤ 9223372036854775807 ∧ f.mts.length ≤ 9223372036854775807 := by
 obtain ⟨Ap, cp, Ai, ci, Af, cf, Am, cm, rfl, h1, h2, ⟨_, _, _, h3⟩, ⟨_, _, _, h4⟩⟩ := h
 obtain ⟨_, _, _, _, m1, _⟩ := h1
 obtain ⟨_, _, _, _, m2, _⟩ := h2
 obtain ⟨_, _, _, _, m3, _⟩ := h3
 obtain ⟨_, _, _, _, m4, _⟩ := h4
 unfold maxLen at m1 m2 m3 m4
 omega
def noneB (p : List Cn) (i : Int) : Bool := decide (i = 0) || tagged p i 4
set_option maxRecDepth 1000000 in
set_option maxHeartbeats 800000 in
theorem noneOrClass_any {B : Nat} (f : Fl) (v : Value) (w : World) (hf : FileAt B w v f) (hB : B ≤ w.heap.size) (i : Int) :
  Calls Tryz.prog 177 #[v, .int .i64 i] w fun e w' => e = .returned (.bool (noneB f.pool i)) ∧ Below w.heap.size w w' := by
 have HH := Lib.hid (fun b V W hW hWB h => has_at (B := B) b f V W hW hWB i 4 h)
 obtain ⟨Ap, cp, Ai, ci, Af, cf, Am, cm, rfl, hi⟩ := id hf
 have HBE := Lib.hid ((Below.refl w.heap.size w).alloc (Nat.le_refl _) (.cells #[.slice Ap f.pool.length cp, .int .i64 f.fl, .int .i64 f.this, .int .i64 f.super, .slice Ai f.ifs.length ci, .slice Af f.fds.length cf, .slice Am f.mts.length cm] 94))
 have HFL := Lib.hid (hf.alloc hB (.cells #[.slice Ap f.pool.length cp, .int .i64 f.fl, .int .i64 f.this, .int .i64 f.super, .slice Ai f.ifs.length ci, .slice Af f.fds.length cf, .slice Am f.mts.length cm] 94))
 have HNB := Lib.hid (show noneB f.pool i = (decide (i = 0) || tagged f.pool i 4) from rfl)
 clear hi hf
 by_cases h0 : i = 0
 ·subst h0
  go_enter Tryz.func177, Tryz.ntmps177
  go_wp2
  go_ret
  exact ⟨ret_b (by rw [HNB.out]; rfl), HBE.out⟩
 ·cases h : tagged f.pool i 4
  all_goals
   have H := Lib.hid h
   have hi0 : (i == 0) = false := by simpa using h0
   clear h
   go_enter Tryz.func177, Tryz.ntmps177
   go_wp2_with fail
   refine (HH.out _ _ _ HFL.out (by simp; omega) H.out).mono ?_
   rintro e w1 ⟨rfl, hb⟩
   have HB1 := Lib.hid (Below.link HBE.out hb)
   clear hb
   go_wp2
   go_ret
   exact ⟨ret_b (by rw [HNB.out, H.out]; simp [h0]), HB1.out⟩
theorem none_at {B : Nat} (b : Bool) (f : Fl) (v : Value) (w : World) (hf : FileAt B w v f) (hB : B ≤ w.heap.size) (i : Int) (h : noneB f.pool i = b) :
  Calls Tryz.prog 177 #[v, .int .i64 i] w fun e w' => e = .returned (.bool b) ∧ Below w.heap.size w w' := by
 have := noneOrClass_any f v w hf hB i
 rwa [h] at this
/-- Whether a link leads to a constant with that tag; with the tag 0, whether there is none. -/
def linkB (p : List Cn) (i t : Int) : Bool := if t = 0 then decide (i = 0) else tagged p i t
set_option maxRecDepth 1000000 in
set_option maxHeartbeats 800000 in
theorem rightLink_any {B : Nat} (f : Fl) (v : Value) (w : World) (hf : FileAt B w v f) (hB : B ≤ w.heap.size) (i t : Int) :
  Calls Tryz.prog 175 #[v, .int .i64 i, .int .i64 t] w fun e w' => e = .returned (.bool (linkB f.pool i t)) ∧ Below w.heap.size w w' := by
 have HH := Lib.hid (fun V W hW hWB => has_any (B := B) f V W hW hWB i t)
 obtain ⟨Ap, cp, Ai, ci, Af, cf, Am, cm, rfl, hi⟩ := id hf
 have HBE := Lib.hid ((Below.refl w.heap.size w).alloc (Nat.le_refl _) (.cells #[.slice Ap f.pool.length cp, .int .i64 f.fl, .int .i64 f.this, .int .i64 f.super, .slice Ai f.ifs.length ci, .slice Af f.fds.length cf, .slice Am f.mts.length cm] 94))
 have HFL := Lib.hid (hf.alloc hB (.cells #[.slice Ap f.pool.length cp, .int .i64 f.fl, .int .i64 f.this, .int .i64 f.super, .slice Ai f.ifs.length ci, .slice Af f.fds.length cf, .slice Am f.mts.length cm] 94))
 have HNB := Lib.hid (show linkB f.pool i t = if t = 0 then decide (i = 0) else tagged f.pool i t from rfl)
 clear hi hf
 generalize linkB f.pool i t = R at *
 by_cases h0 : t = 0
 ·subst h0
  go_enter Tryz.func175, Tryz.ntmps175
  go_wp2
  go_ret
  exact ⟨ret_b (by rw [HNB.out]; simp; rfl), HBE.out⟩
 ·have hi0 : (t == 0) = false := by simpa using h0
  generalize tagged f.pool i t = T at *
  go_enter Tryz.func175, Tryz.ntmps175
  go_wp2_with fail
  refine (HH.out _ _ HFL.out (by simp; omega)).mono ?_
  rintro e w1 ⟨rfl, hb⟩
  have HB1 := Lib.hid (Below.link HBE.out hb)
  clear hb
  go_wp2
  go_ret
  exact ⟨ret_b (by rw [HNB.out, if_neg h0]), HB1.out⟩
theorem rightLink_at {B : Nat} (b : Bool) (f : Fl) (v : Value) (w : World) (hf : FileAt B w v f) (hB : B ≤ w.heap.size) (i t : Int) (h : linkB f.pool i t = b) :
  Calls Tryz.prog 175 #[v, .int .i64 i, .int .i64 t] w fun e w' => e = .returned (.bool b) ∧ Below w.heap.size w w' := by
 have := rightLink_any f v w hf hB i t
 rwa [h] at this
theorem own_below {w w' : World} {base : Nat} {e : TypeId} {size : Nat} {v : Value} {n : Nat} {xs : List Value} (own : w.ownsRow base e size v n xs) (h : Below w.heap.size w w') : w'.ownsRow base e size v n xs :=
 own.kept (row := none) ⟨h.os, h.tape, h.output, h.size, fun k hk _ => h.block k hk⟩ (by
  cases hv : v.ownBlock with
  | none => exact .inl rfl
  | some g => exact .inr (by simp))
end Go.Proofs.YtmaknddlgppinaaGreatDoor
