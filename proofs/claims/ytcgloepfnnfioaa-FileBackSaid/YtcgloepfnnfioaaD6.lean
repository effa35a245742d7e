/-
  PRUNED by wip/tools/prunem.py: what these texts need of an earlier stage's.
-/
import Derived.Test.YtcgloepfnnfioaaD5
set_option linter.unusedVariables false
set_option linter.unusedSimpArgs false
namespace Go.Proofs.Ytcgloepfnnfioaa
open Go.RowKit

theorem tw_cons (c : UInt8) (t : List UInt8) : tw (c :: t) = if c = 59 then [] else c :: tw t := by
  unfold tw
  rw [List.takeWhile_cons]
  by_cases h : c = 59
  · subst h; simp
  · rw [if_pos (by simpa using h), if_neg h]
theorem tw_at (l : List UInt8) (j : Nat) (h : j < (tw l).length) : at0 l j ≠ 59 := by
  induction j generalizing l with
  | zero =>
    cases l with
    | nil => simp [tw] at h
    | cons c t =>
      rw [tw_cons] at h
      by_cases hc : c = 59
      · rw [if_pos hc] at h; simp at h
      · intro e
        exact hc (UInt8.toNat_inj.1 e)
  | succ j ih =>
    cases l with
    | nil => simp [tw] at h
    | cons c t =>
      rw [tw_cons] at h
      by_cases hc : c = 59
      · rw [if_pos hc] at h; simp at h
      · rw [if_neg hc] at h
        exact ih t (by simpa using h)
theorem tw_end (l : List UInt8) (h : (tw l).length < l.length) : at0 l (tw l).length = 59 := by
  induction l with
  | nil => simp at h
  | cons c t ih =>
    rw [tw_cons] at h ⊢
    by_cases hc : c = 59
    · rw [if_pos hc]; subst hc; rfl
    · rw [if_neg hc] at h ⊢
      exact ih (by simpa using h)
theorem at_drop (s : ByteArray) (k j : Nat) (h : k + j < s.size) : (s[k + j]'h).toNat = at0 ((L s).drop k) j := by
  rw [at0_get, at0_drop]
/-- The head of loop 1's frame: what the front of the text is. -/
inductive Front (s : ByteArray) (k : Nat) : Prop
  | many : 4 < k → firstL (L s) = none → Front s k
  | short : k ≤ 4 → s.size ≤ k → firstL (L s) = none → Front s k
  | int : k ≤ 4 → (hk : k < s.size) → ((s[k]'hk).toNat : Int) = 73 → firstL (L s) = some (k, []) → Front s k
  | other : k ≤ 4 → (hk : k < s.size) → (((s[k]'hk).toNat : Int) == 91) = false → (((s[k]'hk).toNat : Int) == 73) = false → (((s[k]'hk).toNat : Int) == 76) = false → firstL (L s) = none → Front s k
  | name (m : Nat) : k ≤ 4 → (hk : k < s.size) → ((s[k]'hk).toNat : Int) = 76 → (∀ j (h : k + 1 + j < s.size), j < m → (((s[k + 1 + j]'h).toNat : Int) == 59) = false) →
      k + 1 + m ≤ s.size → (∀ h : k + 1 + m < s.size, ((s[k + 1 + m]'h).toNat : Int) = 59) →
      firstL (L s) = (if k + 1 + m < s.size ∧ nameL (L (s.extract (k + 1) (k + 1 + m))) = true then some (k, L (s.extract (k + 1) (k + 1 + m))) else none) → nameL [] = false → Front s k
theorem front (s : ByteArray) : Front s (lead (L s)) := by
  obtain ⟨k, hk⟩ : ∃ k, lead (L s) = k := ⟨_, rfl⟩
  have hle := lead_le_size s
  rw [hk] at hle ⊢
  by_cases h4 : 4 < k
  · exact .many h4 (by unfold firstL; rw [hk, if_pos h4])
  have hfl : firstL (L s) = (baseL ((L s).drop k)).map fun n => (k, n) := by unfold firstL; rw [hk, if_neg h4]
  cases hd : (L s).drop k with
  | nil =>
    rw [List.drop_eq_nil_iff, ← size_L] at hd
    exact .short (by omega) hd (by rw [hfl, List.drop_eq_nil_iff.2 (by rw [← size_L]; exact hd)]; rfl)
  | cons c t =>
    have hks : k < s.size := by
      have := congrArg List.length hd
      rw [List.length_drop, ← size_L] at this
      simp at this
      omega
    have hc : (s[k]'hks).toNat = c.toNat := by
      have := at_drop s k 0 hks
      rw [hd] at this
      exact this
    rw [hd] at hfl
    have hts : t.length = s.size - (k + 1) := by
      have := congrArg List.length hd
      rw [List.length_drop, ← size_L] at this
      simp at this
      omega
    by_cases h73 : c = 73
    · refine .int (by omega) hks (by rw [hc, h73]; rfl) ?_
      rw [hfl, baseL_cons, if_pos h73]
      rfl
    by_cases h76 : c = 76
    · have hdt : (L s).drop (k + 1) = t := by rw [← List.drop_drop, hd]; rfl
      have hx : L (s.extract (k + 1) (k + 1 + (tw t).length)) = tw t := by
        rw [L_extract, hdt]
        have : k + 1 + (tw t).length - (k + 1) = (tw t).length := by omega
        rw [this]
        exact tw_take t
      have htl := tw_le t
      refine .name (tw t).length (by omega) hks (by rw [hc, h76]; rfl) ?_ (by omega) ?_ ?_ nameL_nil
      · intro j h hj
        rw [at_drop, hdt, beq_eq_false_iff_ne]
        have := tw_at t j hj
        omega
      · intro h
        rw [at_drop, hdt, tw_end t (by omega)]
        rfl
      · rw [hx, hfl, baseL_cons, if_neg h73, if_pos h76]
        show Option.map _ (if (tw t).length < t.length ∧ nameL (tw t) = true then some (tw t) else none) = _
        by_cases hh : (tw t).length < t.length ∧ nameL (tw t) = true
        · rw [if_pos hh, if_pos ⟨by omega, hh.2⟩]; rfl
        · rw [if_neg hh, if_neg (fun h => hh ⟨by omega, h.2⟩)]; rfl
    · have h91 : c ≠ 91 := by
        intro e
        have := lead_end (L s) (by rw [hk, ← size_L]; exact hks)
        rw [hk] at this
        apply this
        have e2 := at0_get s k hks
        rw [hc, e] at e2
        exact e2.symm
      refine .other (by omega) hks (by rw [hc]; exact beq_toNat (x := 91) (by omega) h91) (by rw [hc]; exact beq_toNat (x := 73) (by omega) h73) (by rw [hc]; exact beq_toNat (x := 76) (by omega) h76) ?_
      rw [hfl, baseL_cons, if_neg h73, if_neg h76]
      rfl
set_option maxRecDepth 1000000 in
set_option maxHeartbeats 3200000 in
theorem refNext_any (s : ByteArray) (w : World) (hs : s.size ≤ 1000000) :
    Calls Try.prog 112 #[.string s] w fun e w' => e = .returned (ftV (firstL (L s))) ∧ Below w.heap.size w w' := by
  have HFR := Lib.hid (front s)
  obtain ⟨m, hm⟩ : ∃ m, lead (L s) = m := ⟨_, rfl⟩
  have hml := lead_le_size s
  have HAT : Hid (∀ k (hk : k < s.size), k < m → ((s[k]'hk).toNat : Int) = 91) := fun k hk h => by
    rw [at0_get s k hk]
    exact congrArg _ (lead_at (L s) k (by omega))
  have HEND : Hid (∀ (hk : m < s.size), (((s[m]'hk).toNat : Int) == 91) = false) := fun hk => by
    rw [at0_get s _ hk, beq_eq_false_iff_ne]
    have := lead_end (L s) (by rw [← size_L, hm]; exact hk)
    rw [hm] at this
    intro e
    exact this (by exact_mod_cast e)
  rw [hm] at HFR hml
  have HBE := Lib.hid ((Below.refl w.heap.size w).alloc (Nat.le_refl _) (.cells #[.int .i64 0, .string ⟨#[]⟩] 98))
  clear hm
  go_enter Try.func112, Try.ntmps112
  go_wp2
  go_loopw [] (fun wr => ∃ k : Nat, k ≤ m ∧ wr = (w.alloc (.cells #[.int .i64 0, .string ⟨#[]⟩] 98)).alloc (.cells #[.int .i64 (k : Int), .string ⟨#[]⟩] 98)) (fun wr => m - (intOf ((wr.cell? ⟨w.heap.size + 1, 0, none⟩).getD undef)).toNat)
  case atStart => exact ⟨0, Nat.zero_le _, rfl⟩
  case round =>
    obtain ⟨k, hk, rfl⟩ := hrel
    by_cases hlt : k < m
    · have hz : k < s.size := by omega
      have hb := HAT.out k hz hlt
      go_wp2
      go_roundw
      case rel => exact ⟨k + 1, by omega, by simp⟩
      case measure => simp [intOf]; omega
    · obtain rfl : k = m := by omega
      have hks : k < s.size → (((k : Nat) : Int) == (s.size : Int)) = false := fun h => by rw [beq_eq_false_iff_ne]; omega
      have HKS := Lib.hid hks
      clear hks
      have FR := HFR.out
      clear HFR HAT HBE hlt hk
      rcases FR with ⟨h4, hf⟩ | ⟨h4, hz, hf⟩ | ⟨h4, hz, hat, hf⟩ | ⟨h4, hz, h91, h73, h76, hf⟩ | ⟨m, h4, hz, hat, hne, hmz, hend, hf, hnn⟩
      · have HF := Lib.hid (show ftV (firstL (L s)) = .tuple #[.agg #[.int .i64 0, .string ⟨#[]⟩], .int .i64 0] by rw [hf]; rfl)
        have hor : s.size ≤ k ∨ k < s.size := by omega
        clear hf
        rcases hor with hz | hz
        rotate_left
        have hne := HEND.out hz
        all_goals
          go_wp2
          refine bodyPost_ret (v := .tuple #[.agg #[.int .i64 0, .string ⟨#[]⟩], .int .i64 0]) (by simp [results, Try.results112, go_sem]) rfl ⟨by rw [HF.out], ?_⟩
          exact ((Below.refl _ _).alloc (Nat.le_refl _) _).alloc (by simp) _
      · have HF := Lib.hid (show ftV (firstL (L s)) = .tuple #[.agg #[.int .i64 0, .string ⟨#[]⟩], .int .i64 0] by rw [hf]; rfl)
        clear hf
        obtain rfl : k = s.size := by omega
        go_wp2
        refine bodyPost_ret (v := .tuple #[.agg #[.int .i64 0, .string ⟨#[]⟩], .int .i64 0]) (by simp [results, Try.results112, go_sem]) rfl ⟨by rw [HF.out], ?_⟩
        exact ((Below.refl _ _).alloc (Nat.le_refl _) _).alloc (by simp) _
      · have HF := Lib.hid (show ftV (firstL (L s)) = .tuple #[.agg #[.int .i64 (k : Int), .string ⟨#[]⟩], .int .i64 ((k + 1 : Nat) : Int)] by rw [hf]; show Value.tuple #[_, .int .i64 ((tlen (k, []) : Nat) : Int)] = _; rw [lenB_tlen]; rfl)
        have hks := HKS.out hz
        clear hf
        go_wp2
        refine bodyPost_ret (v := .tuple #[.agg #[.int .i64 (k : Int), .string ⟨#[]⟩], .int .i64 ((k + 1 : Nat) : Int)]) (by simp [results, Try.results112, go_sem]) rfl ⟨by rw [HF.out], ?_⟩
        exact ((Below.refl _ _).alloc (Nat.le_refl _) _).alloc (by simp) _
      · have HF := Lib.hid (show ftV (firstL (L s)) = .tuple #[.agg #[.int .i64 0, .string ⟨#[]⟩], .int .i64 0] by rw [hf]; rfl)
        have hks := HKS.out hz
        have h76' : (((s[k]'hz).toNat : Int) != 76) = true := by rw [bne, h76]; rfl
        clear hf
        go_wp2
        refine bodyPost_ret (v := .tuple #[.agg #[.int .i64 0, .string ⟨#[]⟩], .int .i64 0]) (by simp [results, Try.results112, go_sem]) rfl ⟨by rw [HF.out], ?_⟩
        exact ((Below.refl _ _).alloc (Nat.le_refl _) _).alloc (by simp) _
      · obtain ⟨x, hx⟩ : ∃ x, s.extract (k + 1) (k + 1 + m) = x := ⟨_, rfl⟩
        have hxs : x.size ≤ 1000000 := by rw [← hx, size_L, L_extract, List.length_take, List.length_drop, ← size_L]; omega
        rw [hx] at hf
        have HX := Lib.hid hx
        have HN := fun W => Lib.hid (refName_any x W hxs)
        have hks := HKS.out hz
        have HNE := Lib.hid hne
        have HE59 := Lib.hid hend
        have HF0 := Lib.hid hf
        clear hf hx hne hend
        go_wp2
        go_loopw [6] (fun e wr => ∃ j : Nat, j ≤ m ∧ e = .int .i64 ((k + 1 + j : Nat) : Int) ∧ wr = (w.alloc (.cells #[.int .i64 0, .string ⟨#[]⟩] 98)).alloc (.cells #[.int .i64 (k : Int), .string ⟨#[]⟩] 98)) (fun e _ => s.size - (intOf e).toNat)
        case atStart => exact ⟨0, Nat.zero_le _, by go_num, rfl⟩
        case round =>
          obtain ⟨j, hj, rfl, rfl⟩ := hrel
          by_cases hlt : j < m
          · have hz2 : k + 1 + j < s.size := by omega
            have hb := HNE.out j hz2 hlt
            go_wp2
            refine ⟨⟨j + 1, by omega, by go_num, trivial⟩, ?_⟩
            simp [intOf]
            omega
          · obtain rfl : j = m := by omega
            have hex : s.extract (k + 1) (k + 1 + j) = x := HX.out
            by_cases hje : k + 1 + j < s.size
            · have hb := HE59.out hje
              have hn1 : ((k : Int) + 1 + (j : Int) == (s.size : Int)) = false := by rw [beq_eq_false_iff_ne]; omega
              cases hnm : nameL (L x) with
              | true =>
                have HF := Lib.hid (show ftV (firstL (L s)) = .tuple #[.agg #[.int .i64 (k : Int), .string x], .int .i64 ((k + 1 + j + 1 : Nat) : Int)] by
                  have hne : L x ≠ [] := by intro e; rw [e, nameL_nil] at hnm; exact absurd hnm (by simp)
                  have hxl : (L x).length = j := by rw [← hex, L_extract, List.length_take, List.length_drop, ← size_L]; omega
                  rw [HF0.out, if_pos ⟨hje, hnm⟩]
                  show Value.tuple #[.agg #[_, .string (mkB (L x))], .int .i64 ((tlen (k, L x) : Nat) : Int)] = _
                  rw [lenB_tlen, mkB_L]
                  unfold lenB
                  rw [if_neg hne, hxl]
                  have : k + (j + 2) = k + 1 + j + 1 := by omega
                  rw [this])
                rw [hnm] at HN
                clear hnm
                go_wp2_with fail
                refine (HN _).out.mono ?_
                rintro e w2 ⟨rfl, hb2⟩
                have hs2 := hb2.size
                have hz2 : w.heap.size + 1 < w2.heap.size := by simp at hs2; omega
                have hz3 : w.heap.size < w2.heap.size := by omega
                have R2 := Below.keep hb2 (q := w.heap.size) (by simp; omega) (heap_alloc_lt (heap_new w _))
                have T2 := Below.keep hb2 (q := w.heap.size + 1) (by simp) (heap_new2 w _ _)
                have c0 : w2.cell? ⟨w.heap.size, 0, none⟩ = some (.int .i64 0) := cells_of R2 0
                have c1 : w2.cell? ⟨w.heap.size, 1, none⟩ = some (.string ⟨#[]⟩) := cells_of R2 1
                have f0 := free_of R2 0
                have f1 := free_of R2 1
                have c2 : w2.cell? ⟨w.heap.size + 1, 0, none⟩ = some (.int .i64 (k : Int)) := cells_of T2 0
                have c3 : w2.cell? ⟨w.heap.size + 1, 1, none⟩ = some (.string x) := cells_of T2 1
                have HB := Lib.hid ((((Below.refl w.heap.size w).alloc (Nat.le_refl _) _).alloc (by simp) _).trans (hb2.mono (by simp; omega)))
                clear R2 T2 hb2 hs2
                go_wp2
                refine bodyPost_ret (v := .tuple #[.agg #[.int .i64 (k : Int), .string x], .int .i64 ((k + 1 + j + 1 : Nat) : Int)]) (by simp [results, Try.results112, go_sem, c0, c1]) rfl ⟨by rw [HF.out], ?_⟩
                exact (HB.out.setCell (Nat.le_refl _) _).setCell (Nat.le_refl _) _
              | false =>
                have HF := Lib.hid (show ftV (firstL (L s)) = .tuple #[.agg #[.int .i64 0, .string ⟨#[]⟩], .int .i64 0] by
                  rw [HF0.out, if_neg (by rw [hnm]; simp)]
                  rfl)
                rw [hnm] at HN
                clear hnm
                go_wp2_with fail
                refine (HN _).out.mono ?_
                rintro e w2 ⟨rfl, hb2⟩
                have hs2 := hb2.size
                have hz2 : w.heap.size + 1 < w2.heap.size := by simp at hs2; omega
                have hz3 : w.heap.size < w2.heap.size := by omega
                have R2 := Below.keep hb2 (q := w.heap.size) (by simp; omega) (heap_alloc_lt (heap_new w _))
                have T2 := Below.keep hb2 (q := w.heap.size + 1) (by simp) (heap_new2 w _ _)
                have c0 : w2.cell? ⟨w.heap.size, 0, none⟩ = some (.int .i64 0) := cells_of R2 0
                have c1 : w2.cell? ⟨w.heap.size, 1, none⟩ = some (.string ⟨#[]⟩) := cells_of R2 1
                have f0 := free_of R2 0
                have f1 := free_of R2 1
                have c2 : w2.cell? ⟨w.heap.size + 1, 0, none⟩ = some (.int .i64 (k : Int)) := cells_of T2 0
                have c3 : w2.cell? ⟨w.heap.size + 1, 1, none⟩ = some (.string x) := cells_of T2 1
                have HB := Lib.hid ((((Below.refl w.heap.size w).alloc (Nat.le_refl _) _).alloc (by simp) _).trans (hb2.mono (by simp; omega)))
                clear R2 T2 hb2 hs2
                go_wp2
                refine bodyPost_ret (v := .tuple #[.agg #[.int .i64 0, .string ⟨#[]⟩], .int .i64 0]) (by simp [results, Try.results112, go_sem, c0, c1]) rfl ⟨by rw [HF.out], ?_⟩
                exact (HB.out.setCell (Nat.le_refl _) _).setCell (Nat.le_refl _) _
            · have hn1 : ((k : Int) + 1 + (j : Int) == (s.size : Int)) = true := by rw [beq_iff_eq]; omega
              have HF := Lib.hid (show ftV (firstL (L s)) = .tuple #[.agg #[.int .i64 0, .string ⟨#[]⟩], .int .i64 0] by
                rw [HF0.out, if_neg (fun h => hje h.1)]
                rfl)
              generalize nameL (L x) = nb at *
              go_wp2_with fail
              refine (HN _).out.mono ?_
              rintro e w2 ⟨rfl, hb2⟩
              have hs2 := hb2.size
              have hz2 : w.heap.size + 1 < w2.heap.size := by simp at hs2; omega
              have hz3 : w.heap.size < w2.heap.size := by omega
              have R2 := Below.keep hb2 (q := w.heap.size) (by simp; omega) (heap_alloc_lt (heap_new w _))
              have T2 := Below.keep hb2 (q := w.heap.size + 1) (by simp) (heap_new2 w _ _)
              have c0 : w2.cell? ⟨w.heap.size, 0, none⟩ = some (.int .i64 0) := cells_of R2 0
              have c1 : w2.cell? ⟨w.heap.size, 1, none⟩ = some (.string ⟨#[]⟩) := cells_of R2 1
              have f0 := free_of R2 0
              have f1 := free_of R2 1
              have c2 : w2.cell? ⟨w.heap.size + 1, 0, none⟩ = some (.int .i64 (k : Int)) := cells_of T2 0
              have c3 : w2.cell? ⟨w.heap.size + 1, 1, none⟩ = some (.string x) := cells_of T2 1
              have HB := Lib.hid ((((Below.refl w.heap.size w).alloc (Nat.le_refl _) _).alloc (by simp) _).trans (hb2.mono (by simp; omega)))
              clear R2 T2 hb2 hs2
              go_wp2
              refine bodyPost_ret (v := .tuple #[.agg #[.int .i64 0, .string ⟨#[]⟩], .int .i64 0]) (by simp [results, Try.results112, go_sem, c0, c1]) rfl ⟨by rw [HF.out], ?_⟩
              exact (HB.out.setCell (Nat.le_refl _) _).setCell (Nat.le_refl _) _
set_option maxRecDepth 1000000 in
set_option maxHeartbeats 1600000 in
theorem refField_any (s : ByteArray) (w : World) (hs : s.size ≤ 1000000) :
    Calls Try.prog 90 #[.string s] w fun e w' => e = .returned (fdV (fieldL (L s))) ∧ Below w.heap.size w w' := by
  have HBE := Lib.hid ((Below.refl w.heap.size w).alloc (Nat.le_refl _) (.cells #[.int .i64 0, .string ⟨#[]⟩] 98))
  have HN := fun W => Lib.hid (refNext_any s W hs)
  cases hf : firstL (L s) with
  | none =>
    have hv : fieldL (L s) = none := by unfold fieldL; rw [hf]
    rw [hv]
    rw [hf, ftV_none] at HN
    show Calls Try.prog 90 #[.string s] w fun e w' => e = .returned (.tuple #[.agg #[.int .i64 0, .string ⟨#[]⟩], .int .i64 9]) ∧ Below w.heap.size w w'
    clear hf hv
    go_enter Try.func90, Try.ntmps90
    go_wp2_with fail
    refine (HN _).out.mono ?_
    rintro e w2 ⟨rfl, hb2⟩
    have hs2 := hb2.size
    have hz2 : w.heap.size < w2.heap.size := by simp at hs2; omega
    have R2 := Below.keep hb2 (q := w.heap.size) (by simp) (heap_new w _)
    have c0 : w2.cell? ⟨w.heap.size, 0, none⟩ = some (.int .i64 0) := cells_of R2 0
    have c1 : w2.cell? ⟨w.heap.size, 1, none⟩ = some (.string ⟨#[]⟩) := cells_of R2 1
    have f0 := free_of R2 0
    have f1 := free_of R2 1
    have HB := Lib.hid (HBE.out.trans (hb2.mono (by simp)))
    clear R2 hb2 hs2
    go_wp2
    refine bodyPost_ret (v := .tuple #[.agg #[.int .i64 0, .string ⟨#[]⟩], .int .i64 9]) (by simp [results, Try.results90, go_sem, c0, c1, hz2]) rfl ⟨rfl, ?_⟩
    exact (((HB.out.setCell (Nat.le_refl _) _).setCell (Nat.le_refl _) _).alloc (by simp; omega) _)
  | some p =>
    have htp := tlen_pos p
    rw [hf, ftV_some] at HN
    have hn0 : (((tlen p : Nat) : Int) == 0) = false := by rw [beq_eq_false_iff_ne]; omega
    by_cases hl : tlen p = (L s).length
    · have hv : fieldL (L s) = some p := by unfold fieldL; rw [hf]; exact if_pos hl
      rw [hv]
      have hl' : tlen p = s.size := by rw [hl, size_L]
      rw [hl'] at HN hn0
      show Calls Try.prog 90 #[.string s] w fun e w' => e = .returned (.tuple #[.agg #[.int .i64 p.1, .string (mkB p.2)], .int .i64 0]) ∧ Below w.heap.size w w'
      generalize mkB p.2 = nb at *
      generalize p.1 = d at *
      clear hf hv hl hl' htp
      go_enter Try.func90, Try.ntmps90
      go_wp2_with fail
      refine (HN _).out.mono ?_
      rintro e w2 ⟨rfl, hb2⟩
      have hs2 := hb2.size
      have hz2 : w.heap.size < w2.heap.size := by simp at hs2; omega
      have R2 := Below.keep hb2 (q := w.heap.size) (by simp) (heap_new w _)
      have c0 : w2.cell? ⟨w.heap.size, 0, none⟩ = some (.int .i64 0) := cells_of R2 0
      have c1 : w2.cell? ⟨w.heap.size, 1, none⟩ = some (.string ⟨#[]⟩) := cells_of R2 1
      have f0 := free_of R2 0
      have f1 := free_of R2 1
      have HB := Lib.hid (HBE.out.trans (hb2.mono (by simp)))
      clear R2 hb2 hs2
      go_wp2
      refine bodyPost_ret (v := .tuple #[.agg #[.int .i64 d, .string nb], .int .i64 0]) (by simp [results, Try.results90, go_sem, c0, c1, hz2]) rfl ⟨rfl, ?_⟩
      exact (((HB.out.setCell (Nat.le_refl _) _).setCell (Nat.le_refl _) _).alloc (by simp; omega) _)
    · have hv : fieldL (L s) = none := by unfold fieldL; rw [hf]; exact if_neg hl
      rw [hv]
      have hl1 : (((tlen p : Nat) : Int) == (s.size : Int)) = false := by rw [beq_eq_false_iff_ne, size_L]; omega
      have hl2 : (((tlen p : Nat) : Int) != (s.size : Int)) = true := by rw [bne, hl1]; rfl
      show Calls Try.prog 90 #[.string s] w fun e w' => e = .returned (.tuple #[.agg #[.int .i64 0, .string ⟨#[]⟩], .int .i64 9]) ∧ Below w.heap.size w w'
      generalize mkB p.2 = nb at *
      generalize tlen p = m at *
      generalize p.1 = d at *
      clear hf hv hl htp
      go_enter Try.func90, Try.ntmps90
      go_wp2_with fail
      refine (HN _).out.mono ?_
      rintro e w2 ⟨rfl, hb2⟩
      have hs2 := hb2.size
      have hz2 : w.heap.size < w2.heap.size := by simp at hs2; omega
      have R2 := Below.keep hb2 (q := w.heap.size) (by simp) (heap_new w _)
      have c0 : w2.cell? ⟨w.heap.size, 0, none⟩ = some (.int .i64 0) := cells_of R2 0
      have c1 : w2.cell? ⟨w.heap.size, 1, none⟩ = some (.string ⟨#[]⟩) := cells_of R2 1
      have f0 := free_of R2 0
      have f1 := free_of R2 1
      have HB := Lib.hid (HBE.out.trans (hb2.mono (by simp)))
      clear R2 hb2 hs2
      go_wp2
      refine bodyPost_ret (v := .tuple #[.agg #[.int .i64 0, .string ⟨#[]⟩], .int .i64 9]) (by simp [results, Try.results90, go_sem, c0, c1, hz2]) rfl ⟨rfl, ?_⟩
      exact (((HB.out.setCell (Nat.le_refl _) _).setCell (Nat.le_refl _) _).alloc (by simp; omega) _)
end Go.Proofs.Ytcgloepfnnfioaa
