/-
  WALKS of what is told of one type, by the program and by the document's own answer: may it be, its text, its element, its array, is it a reference.
-/
import Derived.Test.YtamafgpconfipaaDp
import Derived.Test.YtamafgpconfipaaShelf
set_option linter.unusedVariables false
set_option linter.unusedSimpArgs false
namespace Go.Proofs.Ytamafgpconfipaa
open Go.RowKit

theorem bcell {W w1 : World} (hb : Below W.heap.size W w1) : (∀ b o, b < W.heap.size → w1.cell? ⟨b, o, none⟩ = W.cell? ⟨b, o, none⟩) ∧ (∀ b o, b < W.heap.size → w1.frozen? ⟨b, o, none⟩ = W.frozen? ⟨b, o, none⟩) :=
  ⟨fun b o h => hb.cell (p := ⟨b, o, none⟩) h, fun b o h => hb.frozen (p := ⟨b, o, none⟩) h⟩
theorem toList_data (s : ByteArray) : s.toList = L s := Lib.toList_data s
theorem size0_nil {s : ByteArray} (h : s.size = 0) : L s = [] := List.eq_nil_of_length_eq_zero (by rw [← size_L]; exact h)
theorem sizepos_ne {s : ByteArray} (h : 0 < s.size) : L s ≠ [] := by
  intro e
  rw [size_L, e] at h
  simp at h
theorem nil_of0 {s : ByteArray} (h : s.size = 0) : s.toList = [] := by rw [toList_data]; exact size0_nil h
theorem ne_ofpos {s : ByteArray} (h : 0 < s.size) : ¬ s.toList = [] := by rw [toList_data]; exact sizepos_ne h
theorem emp_of0 {s : ByteArray} (h : s.size = 0) : s.toList.isEmpty = true := by rw [nil_of0 h]; rfl
theorem emp_ofpos {s : ByteArray} (h : 0 < s.size) : s.toList.isEmpty = false := by simpa using ne_ofpos h
theorem okT_neg {d : Int} {n : List UInt8} (h : d < 0 ∨ 4 < d) : okT d n = false := by
  rw [← Bool.not_eq_true, okT_iff]
  omega
theorem okT_nil {d : Int} (h0 : 0 ≤ d) (h4 : d ≤ 4) : okT d [] = true := (okT_iff _ _).2 ⟨h0, h4, .inl rfl⟩
theorem okT_name {d : Int} {n : List UInt8} (h0 : 0 ≤ d) (h4 : d ≤ 4) (hn : n ≠ []) : okT d n = nameL n := by
  rw [Bool.eq_iff_iff, okT_iff]
  exact ⟨fun ⟨_, _, c⟩ => c.resolve_left hn, fun c => ⟨h0, h4, .inr c⟩⟩

set_option maxRecDepth 1000000 in
set_option maxHeartbeats 800000 in
theorem tyvalid_any (d : Int) (n : ByteArray) (w : World) :
    Calls Try.prog 27 #[.agg #[.int .i64 d, .string n]] w fun e w' => e = .returned (.bool (okT d (L n))) ∧ Below w.heap.size w w' := by
  have hbe : ∀ o, Below w.heap.size w (w.alloc o) := fun o => (Below.refl _ _).alloc (Nat.le_refl _) o
  by_cases h0 : d < 0
  · rw [okT_neg (.inl h0)]
    go_enter Try.func27, Try.ntmps27
    go_wp2
    go_ret
    exact ⟨rfl, hbe _⟩
  by_cases h4 : 4 < d
  · rw [okT_neg (.inr h4)]
    have h0' : 0 ≤ d := by omega
    clear h0
    go_enter Try.func27, Try.ntmps27
    go_wp2
    go_ret
    exact ⟨rfl, hbe _⟩
  have h0' : 0 ≤ d := by omega
  have h4' : d ≤ 4 := by omega
  clear h0 h4
  by_cases hn : n.size = 0
  · have e1 := nil_of0 hn
    have e2 := emp_of0 hn
    rw [size0_nil hn, okT_nil h0' h4']
    clear hn
    go_enter Try.func27, Try.ntmps27
    go_wp2
    go_ret
    exact ⟨rfl, hbe _⟩
  · have hp : 0 < n.size := by omega
    have e1 := ne_ofpos hp
    have e2 := emp_ofpos hp
    rw [okT_name h0' h4' (sizepos_ne hp)]
    have HN := fun W => Lib.hid (Name_any n W)
    obtain ⟨b, hb⟩ : ∃ b, nameL (L n) = b := ⟨_, rfl⟩
    rw [hb] at HN ⊢
    clear hb hn hp
    cases b
    all_goals
      go_enter Try.func27, Try.ntmps27
      go_wp2_with fail
      refine (HN _).out.mono ?_
      rintro e w2 ⟨rfl, hb2⟩
      have hb2 := (hbe (.cells #[.int .i64 d, .string n] 23)).trans (hb2.mono (by simp))
      go_wp2
      go_ret
      exact ⟨rfl, hb2⟩
theorem tyvalid_at (b : Bool) (d : Int) (n : ByteArray) (w : World) (h : okT d (L n) = b) :
    Calls Try.prog 27 #[.agg #[.int .i64 d, .string n]] w fun e w' => e = .returned (.bool b) ∧ Below w.heap.size w w' := by
  have := tyvalid_any d n w
  rwa [h] at this

set_option maxRecDepth 1000000 in
set_option maxHeartbeats 800000 in
theorem Right_any (d : Int) (n : ByteArray) (w : World) (hs : n.size ≤ 1000000) :
    Calls Try.prog 29 #[.agg #[.int .i64 d, .string n]] w fun e w' => e = .returned (.bool (okT d (L n))) ∧ Below w.heap.size w w' := by
  have HBE := Lib.hid ((Below.refl w.heap.size w).alloc (Nat.le_refl _) (.cells #[.int .i64 d, .string n] 23))
  have HN := fun W => Lib.hid (refName_any n W hs)
  obtain ⟨b, hb⟩ : ∃ b, nameL (L n) = b := ⟨_, rfl⟩
  rw [hb] at HN
  obtain ⟨r, hr⟩ : ∃ r, okT d (L n) = r := ⟨_, rfl⟩
  rw [hr]
  by_cases h0 : d < 0
  · rw [okT_neg (.inl h0)] at hr
    clear hb
    subst hr
    go_enter Try.func29, Try.ntmps29
    go_wp2_with fail
    refine (HN _).out.mono ?_
    rintro e w2 ⟨rfl, hb2⟩
    obtain ⟨hc, hf⟩ := bcell hb2
    have hb2 := HBE.out.trans (hb2.mono (by simp))
    go_wp2
    go_ret
    exact ⟨rfl, hb2⟩
  by_cases h4 : 4 < d
  · rw [okT_neg (.inr h4)] at hr
    have h0' : 0 ≤ d := by omega
    clear h0 hb
    subst hr
    go_enter Try.func29, Try.ntmps29
    go_wp2_with fail
    refine (HN _).out.mono ?_
    rintro e w2 ⟨rfl, hb2⟩
    obtain ⟨hc, hf⟩ := bcell hb2
    have hb2 := HBE.out.trans (hb2.mono (by simp))
    go_wp2
    go_ret
    exact ⟨rfl, hb2⟩
  have h0' : 0 ≤ d := by omega
  have h4' : d ≤ 4 := by omega
  clear h0 h4
  by_cases hn : n.size = 0
  · have e1 := nil_of0 hn
    have e2 := emp_of0 hn
    rw [size0_nil hn, okT_nil h0' h4'] at hr
    rw [size0_nil hn, nameL_nil] at hb
    subst hr hb
    clear hn
    go_enter Try.func29, Try.ntmps29
    go_wp2_with fail
    refine (HN _).out.mono ?_
    rintro e w2 ⟨rfl, hb2⟩
    obtain ⟨hc, hf⟩ := bcell hb2
    have hb2 := HBE.out.trans (hb2.mono (by simp))
    go_wp2
    go_ret
    exact ⟨rfl, hb2⟩
  · have hp : 0 < n.size := by omega
    have e1 := ne_ofpos hp
    have e2 := emp_ofpos hp
    rw [okT_name h0' h4' (sizepos_ne hp), hb] at hr
    clear hb hn hp
    subst hr
    cases b
    all_goals
      go_enter Try.func29, Try.ntmps29
      go_wp2_with fail
      refine (HN _).out.mono ?_
      rintro e w2 ⟨rfl, hb2⟩
      obtain ⟨hc, hf⟩ := bcell hb2
      have hb2 := HBE.out.trans (hb2.mono (by simp))
      go_wp2
      go_ret
      exact ⟨rfl, hb2⟩
theorem Right_at (b : Bool) (d : Int) (n : ByteArray) (w : World) (hs : n.size ≤ 1000000) (h : okT d (L n) = b) :
    Calls Try.prog 29 #[.agg #[.int .i64 d, .string n]] w fun e w' => e = .returned (.bool b) ∧ Below w.heap.size w w' := by
  have := Right_any d n w hs
  rwa [h] at this

/-- A type's values are references. -/
def refT (d : Int) (n : List UInt8) : Bool := okT d n && !(decide (d = 0) && n.isEmpty)
theorem refT_eq {r : Bool} {d : Int} {n : List UInt8} (h : okT d n = r) : refT d n = (r && !(decide (d = 0) && n.isEmpty)) := by unfold refT; rw [h]
theorem ref_one {d : Int} (E : Bool) (hd : 0 ≤ d) : (decide (0 < d) || !E) = (true && !(decide (d = 0) && E)) := by
  by_cases h : d = 0
  · subst h; simp
  · rw [decide_eq_true (by omega), decide_eq_false h]; rfl
theorem ref_two {d : Int} (E : Bool) (hd : 0 < d) : true = (true && !(decide (d = 0) && E)) := by
  rw [decide_eq_false (by omega)]; rfl
set_option maxRecDepth 1000000 in
set_option maxHeartbeats 800000 in
theorem IsRef_any (d : Int) (n : ByteArray) (w : World) :
    Calls Try.prog 18 #[.agg #[.int .i64 d, .string n]] w fun e w' => e = .returned (.bool (refT d (L n))) ∧ Below w.heap.size w w' := by
  have HBE := Lib.hid ((Below.refl w.heap.size w).alloc (Nat.le_refl _) (.cells #[.int .i64 d, .string n] 23))
  obtain ⟨r, hr⟩ : ∃ r, okT d (L n) = r := ⟨_, rfl⟩
  have HV := fun W => Lib.hid (tyvalid_at r d n W hr)
  have HR := Lib.hid (refT_eq hr)
  clear hr
  have HL := Lib.hid (toList_data n)
  cases r
  all_goals
    go_enter Try.func18, Try.ntmps18
    go_wp2_with fail
    refine (HV _).out.mono ?_
    rintro e w2 ⟨rfl, hb2⟩
    obtain ⟨hc, hf⟩ := bcell hb2
    have hb2 := HBE.out.trans (hb2.mono (by simp))
    go_wp2
    all_goals
      go_ret
      refine ⟨ret_bool ?_, hb2⟩
      rw [HR.out, ← HL.out]
      simp_all
set_option maxRecDepth 1000000 in
set_option maxHeartbeats 800000 in
theorem refIsRef_any (d : Int) (n : ByteArray) (w : World) (hs : n.size ≤ 1000000) :
    Calls Try.prog 19 #[.agg #[.int .i64 d, .string n]] w fun e w' => e = .returned (.bool (refT d (L n))) ∧ Below w.heap.size w w' := by
  have HBE := Lib.hid ((Below.refl w.heap.size w).alloc (Nat.le_refl _) (.cells #[.int .i64 d, .string n] 23))
  obtain ⟨r, hr⟩ : ∃ r, okT d (L n) = r := ⟨_, rfl⟩
  have HV := fun W => Lib.hid (Right_at r d n W hs hr)
  have HR := Lib.hid (refT_eq hr)
  have HD := Lib.hid (show r = true → 0 ≤ d from fun h => ((okT_iff _ _).1 (hr.trans h)).1)
  clear hr
  have HL := Lib.hid (toList_data n)
  cases r
  all_goals
    go_enter Try.func19, Try.ntmps19
    go_wp2_with fail
    refine (HV _).out.mono ?_
    rintro e w2 ⟨rfl, hb2⟩
    obtain ⟨hc, hf⟩ := bcell hb2
    have hb2 := HBE.out.trans (hb2.mono (by simp))
    go_wp2
    all_goals
      go_ret
      refine ⟨ret_bool ?_, hb2⟩
      rw [HR.out, ← HL.out]
      first
        | rfl
        | exact ref_two _ (by assumption)
        | exact ref_one _ (HD.out (by first | trivial | rfl))
end Go.Proofs.Ytamafgpconfipaa
