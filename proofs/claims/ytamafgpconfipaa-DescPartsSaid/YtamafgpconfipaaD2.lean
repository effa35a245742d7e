/-
  WALKS of a type's text, its element and its array, by the program and by the document's own answer.
-/
import Derived.Test.YtamafgpconfipaaD1
set_option linter.unusedVariables false
set_option linter.unusedSimpArgs false
namespace Go.Proofs.Ytamafgpconfipaa
open Go.RowKit
def mkB (l : List UInt8) : ByteArray := ⟨l.toArray⟩
theorem L_mkB (l : List UInt8) : L (mkB l) = l := rfl
theorem mkB_L (s : ByteArray) : mkB (L s) = s := by cases s; rfl
theorem eq_mkB {s : ByteArray} {l : List UInt8} (h : L s = l) : s = mkB l := by rw [← h, mkB_L]
theorem L_append (a b : ByteArray) : L (a ++ b) = L a ++ L b := by simp [L]
theorem ret_str {a b : ByteArray} (h : a = b) : Ending.returned (.string a) = .returned (.string b) := by rw [h]
theorem repeat_one (c : UInt8) (d : Nat) : Lib.repeatL [c] d = List.replicate d c := by
  have := Lib.repeatL_replicate c 1 d
  simpa using this
theorem repeat_any (d : Nat) (w : World) (hd : d ≤ 4) :
    Calls Try.prog 34 #[.string ⟨#[91]⟩, .int .i64 (d : Int)] w fun e w' => ∃ R, e = .returned (.string R) ∧ L R = List.replicate d 91 ∧ R.size ≤ 4 ∧ Below w.heap.size w w' :=
  (strings_Repeat ⟨#[91]⟩ d w (by omega) (by show 1 * d ≤ _; omega)).mono fun e w' ⟨he, hb⟩ => ⟨_, he, by
    show Lib.repeatL [91] d = _
    exact repeat_one 91 d, by
    rw [size_L]
    show (Lib.repeatL [91] d).length ≤ 4
    rw [repeat_one, List.length_replicate]; exact hd, hb⟩
theorem emp_L {n : ByteArray} (h : n.toList.isEmpty = true) : L n = [] := by rw [← toList_data]; simpa using h
theorem nemp_L {n : ByteArray} (h : n.toList.isEmpty = false) : L n ≠ [] := by rw [← toList_data]; simpa using h
theorem nemp_L' {n : ByteArray} (h : ¬ n.toList.isEmpty = true) : L n ≠ [] := by rw [← toList_data]; simpa using h
set_option maxRecDepth 1000000 in
set_option maxHeartbeats 800000 in
theorem describe_any (d : Nat) (n : ByteArray) (w : World) (hd : d ≤ 4) (hn : n.size ≤ 1000) :
    Calls Try.prog 28 #[.agg #[.int .i64 (d : Int), .string n]] w fun e w' => e = .returned (.string (mkB (descT (d, L n)))) ∧ Below w.heap.size w w' := by
  have HBE := Lib.hid ((Below.refl w.heap.size w).alloc (Nat.le_refl _) (.cells #[.int .i64 (d : Int), .string n] 23))
  have HR := fun W => Lib.hid (repeat_any d W hd)
  go_enter Try.func28, Try.ntmps28
  go_wp2_with fail
  refine (HR _).out.mono ?_
  rintro e w2 ⟨R, rfl, hR, hRs, hb2⟩
  have HRL := Lib.hid hR
  obtain ⟨hc, hf⟩ := bcell hb2
  have hb2 := HBE.out.trans (hb2.mono (by simp))
  clear hR
  go_wp2
  · have he : n.toList.isEmpty = true := by assumption
    go_ret
    refine ⟨ret_str (eq_mkB ?_), hb2⟩
    rw [L_append, HRL.out, descT]
    simp only
    rw [if_pos (emp_L he)]
  · have he : L n ≠ [] := by first | exact nemp_L (by assumption) | exact nemp_L' (by assumption)
    go_ret
    refine ⟨ret_str (eq_mkB ?_), hb2⟩
    rw [L_append, L_append, L_append, HRL.out, descT]
    simp only
    rw [if_neg he]
    show (List.replicate d 91 ++ [76] ++ L n ++ [59]) = _
    simp
theorem okT_name_le {d : Int} {n : ByteArray} (h : okT d (L n) = true) : n.size ≤ 256 := by
  obtain ⟨_, _, c⟩ := (okT_iff _ _).1 h
  rw [size_L]
  rcases c with c | c
  · rw [c]; simp
  · exact name_le c
theorem okT_dims {d : Int} {n : List UInt8} (h : okT d n = true) : 0 ≤ d ∧ d ≤ 4 := ⟨((okT_iff _ _).1 h).1, ((okT_iff _ _).1 h).2.1⟩
/-- What 'Write' answers. -/
def wrA (d : Int) (n : List UInt8) : ByteArray := if okT d n then mkB (descT (d.toNat, n)) else ⟨#[]⟩
def wrE (d : Int) (n : List UInt8) : Int := if okT d n then 0 else 9
theorem wr_ok {d : Int} {n : List UInt8} (h : okT d n = true) : wrA d n = mkB (descT (d.toNat, n)) ∧ wrE d n = 0 := by unfold wrA wrE; rw [if_pos h, if_pos h]; exact ⟨rfl, rfl⟩
theorem wr_no {d : Int} {n : List UInt8} (h : okT d n = false) : wrA d n = ⟨#[]⟩ ∧ wrE d n = 9 := by unfold wrA wrE; rw [h]; exact ⟨rfl, rfl⟩
set_option maxRecDepth 1000000 in
set_option maxHeartbeats 800000 in
theorem Write_ok (d : Nat) (n : ByteArray) (w : World) (h : okT d (L n) = true) :
    Calls Try.prog 12 #[.agg #[.int .i64 (d : Int), .string n]] w fun e w' => e = .returned (.tuple #[.string (mkB (descT (d, L n))), .int .i64 0]) ∧ Below w.heap.size w w' := by
  have hsz := okT_name_le h
  have hd := (okT_dims h).2
  have HBE := Lib.hid ((Below.refl w.heap.size w).alloc (Nat.le_refl _) (.cells #[.int .i64 (d : Int), .string n] 23))
  have HV := fun W => Lib.hid (tyvalid_at true d n W h)
  have HD := fun W => Lib.hid (describe_any d n W (by omega) (by omega))
  clear h
  go_enter Try.func12, Try.ntmps12
  go_wp2_with fail
  refine (HV _).out.mono ?_
  rintro e w2 ⟨rfl, hb2⟩
  obtain ⟨hc, hf⟩ := bcell hb2
  have hs2 := hb2.size
  have hb2 := HBE.out.trans (hb2.mono (by simp))
  go_wp2_with fail
  refine (HD _).out.mono ?_
  rintro e w3 ⟨rfl, hb3⟩
  have hb3 := hb2.trans (hb3.mono (by simp at hs2; omega))
  clear hc hf hb2
  go_wp2
  go_ret2
  exact ⟨rfl, hb3⟩
set_option maxRecDepth 1000000 in
set_option maxHeartbeats 800000 in
theorem Write_no (d : Int) (n : ByteArray) (w : World) (h : okT d (L n) = false) :
    Calls Try.prog 12 #[.agg #[.int .i64 d, .string n]] w fun e w' => e = .returned (.tuple #[.string ⟨#[]⟩, .int .i64 9]) ∧ Below w.heap.size w w' := by
  have HBE := Lib.hid ((Below.refl w.heap.size w).alloc (Nat.le_refl _) (.cells #[.int .i64 d, .string n] 23))
  have HV := fun W => Lib.hid (tyvalid_at false d n W h)
  clear h
  go_enter Try.func12, Try.ntmps12
  go_wp2_with fail
  refine (HV _).out.mono ?_
  rintro e w2 ⟨rfl, hb2⟩
  have hb2 := HBE.out.trans (hb2.mono (by simp))
  go_wp2
  go_ret2
  exact ⟨rfl, hb2⟩
theorem Write_any (d : Int) (n : ByteArray) (w : World) :
    Calls Try.prog 12 #[.agg #[.int .i64 d, .string n]] w fun e w' => e = .returned (.tuple #[.string (wrA d (L n)), .int .i64 (wrE d (L n))]) ∧ Below w.heap.size w w' := by
  cases h : okT d (L n) with
  | false =>
    rw [(wr_no h).1, (wr_no h).2]
    exact Write_no d n w h
  | true =>
    rw [(wr_ok h).1, (wr_ok h).2]
    have hd := okT_dims h
    have e : ((d.toNat : Nat) : Int) = d := by omega
    have := Write_ok d.toNat n w (by rw [e]; exact h)
    rwa [e] at this
/-- What 'Element' answers. -/
def elB (d : Int) (n : List UInt8) : Bool := okT d n && decide (1 ≤ d)
def arB (d : Int) (n : List UInt8) : Bool := okT d n && decide (d ≤ 3)
set_option maxRecDepth 1000000 in
set_option maxHeartbeats 800000 in
theorem Element_yes (d : Int) (n : ByteArray) (w : World) (h : okT d (L n) = true) (h1 : 1 ≤ d) :
    Calls Try.prog 14 #[.agg #[.int .i64 d, .string n]] w fun e w' => e = .returned (.tuple #[.agg #[.int .i64 (d - 1), .string n], .bool true]) ∧ Below w.heap.size w w' := by
  have hd := (okT_dims h).2
  have hd' := (okT_dims h).1
  have HV := fun W => Lib.hid (tyvalid_at true d n W h)
  have HBE := Lib.hid (((Below.refl w.heap.size w).alloc (Nat.le_refl _) (.cells #[.int .i64 d, .string n] 23)).alloc (by simp) (.cells #[.int .i64 0, .string ⟨#[]⟩] 23))
  have hd0 : (d == 0) = false := by rw [beq_eq_false_iff_ne]; omega
  clear h
  go_enter Try.func14, Try.ntmps14
  go_wp2_with fail
  refine (HV _).out.mono ?_
  rintro e w2 ⟨rfl, hb2⟩
  obtain ⟨hc, hf⟩ := bcell hb2
  have hs2 := hb2.size
  have hz : w.heap.size + 1 < w2.heap.size := by simp at hs2; omega
  have c0 : w2.cell? ⟨w.heap.size, 0, none⟩ = some (.int .i64 d) := by rw [hc _ _ (by simp; omega)]; go_simp
  have g0 : ∀ v, (w2.setCell ⟨w.heap.size, 0, none⟩ v).cell? ⟨w.heap.size, 0, none⟩ = some v := fun v => World.cell?_setCell_same' w2 _ v (by rw [c0]; rfl)
  have HB := Lib.hid (HBE.out.trans (hb2.mono (by simp; omega)))
  go_wp2
  refine bodyPost_ret (v := .tuple #[.agg #[.int .i64 (d - 1), .string n], .bool true]) (by simp [results, Try.results14, go_sem, hc]) rfl ⟨rfl, ?_⟩
  first
    | exact ((HB.out.setCell (Nat.le_refl _) _).setCell (by simp) _).setCell (by simp) _
    | exact (HB.out.setCell (by simp) _).setCell (by simp) _
set_option maxRecDepth 1000000 in
set_option maxHeartbeats 800000 in
theorem Element_no (d : Int) (n : ByteArray) (w : World) (h : okT d (L n) = false) :
    Calls Try.prog 14 #[.agg #[.int .i64 d, .string n]] w fun e w' => e = .returned (.tuple #[.agg #[.int .i64 0, .string ⟨#[]⟩], .bool false]) ∧ Below w.heap.size w w' := by
  have HV := fun W => Lib.hid (tyvalid_at false d n W h)
  have HBE := Lib.hid (((Below.refl w.heap.size w).alloc (Nat.le_refl _) (.cells #[.int .i64 d, .string n] 23)).alloc (by simp) (.cells #[.int .i64 0, .string ⟨#[]⟩] 23))
  clear h
  go_enter Try.func14, Try.ntmps14
  go_wp2_with fail
  refine (HV _).out.mono ?_
  rintro e w2 ⟨rfl, hb2⟩
  obtain ⟨hc, hf⟩ := bcell hb2
  have hs2 := hb2.size
  have hz : w.heap.size + 1 < w2.heap.size := by simp at hs2; omega
  have HB := Lib.hid (HBE.out.trans (hb2.mono (by simp; omega)))
  go_wp2
  refine bodyPost_ret (v := .tuple #[.agg #[.int .i64 0, .string ⟨#[]⟩], .bool false]) (by simp [results, Try.results14, go_sem, hc]) rfl ⟨rfl, ?_⟩
  exact (HB.out.setCell (by simp) _).setCell (by simp) _
set_option maxRecDepth 1000000 in
set_option maxHeartbeats 800000 in
theorem Element_zero (d : Int) (n : ByteArray) (w : World) (h : okT d (L n) = true) (h1 : d = 0) :
    Calls Try.prog 14 #[.agg #[.int .i64 d, .string n]] w fun e w' => e = .returned (.tuple #[.agg #[.int .i64 0, .string ⟨#[]⟩], .bool false]) ∧ Below w.heap.size w w' := by
  subst h1
  have HV := fun W => Lib.hid (tyvalid_at true 0 n W h)
  have HBE := Lib.hid (((Below.refl w.heap.size w).alloc (Nat.le_refl _) (.cells #[.int .i64 0, .string n] 23)).alloc (by simp) (.cells #[.int .i64 0, .string ⟨#[]⟩] 23))
  clear h
  go_enter Try.func14, Try.ntmps14
  go_wp2_with fail
  refine (HV _).out.mono ?_
  rintro e w2 ⟨rfl, hb2⟩
  obtain ⟨hc, hf⟩ := bcell hb2
  have hs2 := hb2.size
  have hz : w.heap.size + 1 < w2.heap.size := by simp at hs2; omega
  have HB := Lib.hid (HBE.out.trans (hb2.mono (by simp; omega)))
  go_wp2
  refine bodyPost_ret (v := .tuple #[.agg #[.int .i64 0, .string ⟨#[]⟩], .bool false]) (by simp [results, Try.results14, go_sem, hc]) rfl ⟨rfl, ?_⟩
  exact (HB.out.setCell (by simp) _).setCell (by simp) _
set_option maxRecDepth 1000000 in
set_option maxHeartbeats 800000 in
theorem ArrayOf_yes (d : Int) (n : ByteArray) (w : World) (h : okT d (L n) = true) (h1 : d ≤ 3) :
    Calls Try.prog 16 #[.agg #[.int .i64 d, .string n]] w fun e w' => e = .returned (.tuple #[.agg #[.int .i64 (d + 1), .string n], .bool true]) ∧ Below w.heap.size w w' := by
  have hd := (okT_dims h).2
  have hd' := (okT_dims h).1
  have HV := fun W => Lib.hid (tyvalid_at true d n W h)
  have HBE := Lib.hid (((Below.refl w.heap.size w).alloc (Nat.le_refl _) (.cells #[.int .i64 d, .string n] 23)).alloc (by simp) (.cells #[.int .i64 0, .string ⟨#[]⟩] 23))
  have hd0 : (d == 4) = false := by rw [beq_eq_false_iff_ne]; omega
  clear h
  go_enter Try.func16, Try.ntmps16
  go_wp2_with fail
  refine (HV _).out.mono ?_
  rintro e w2 ⟨rfl, hb2⟩
  obtain ⟨hc, hf⟩ := bcell hb2
  have hs2 := hb2.size
  have hz : w.heap.size + 1 < w2.heap.size := by simp at hs2; omega
  have c0 : w2.cell? ⟨w.heap.size, 0, none⟩ = some (.int .i64 d) := by rw [hc _ _ (by simp; omega)]; go_simp
  have g0 : ∀ v, (w2.setCell ⟨w.heap.size, 0, none⟩ v).cell? ⟨w.heap.size, 0, none⟩ = some v := fun v => World.cell?_setCell_same' w2 _ v (by rw [c0]; rfl)
  have HB := Lib.hid (HBE.out.trans (hb2.mono (by simp; omega)))
  go_wp2
  refine bodyPost_ret (v := .tuple #[.agg #[.int .i64 (d + 1), .string n], .bool true]) (by simp [results, Try.results16, go_sem, hc]) rfl ⟨rfl, ?_⟩
  first
    | exact ((HB.out.setCell (Nat.le_refl _) _).setCell (by simp) _).setCell (by simp) _
    | exact (HB.out.setCell (by simp) _).setCell (by simp) _
set_option maxRecDepth 1000000 in
set_option maxHeartbeats 800000 in
theorem ArrayOf_no (d : Int) (n : ByteArray) (w : World) (h : okT d (L n) = false) :
    Calls Try.prog 16 #[.agg #[.int .i64 d, .string n]] w fun e w' => e = .returned (.tuple #[.agg #[.int .i64 0, .string ⟨#[]⟩], .bool false]) ∧ Below w.heap.size w w' := by
  have HV := fun W => Lib.hid (tyvalid_at false d n W h)
  have HBE := Lib.hid (((Below.refl w.heap.size w).alloc (Nat.le_refl _) (.cells #[.int .i64 d, .string n] 23)).alloc (by simp) (.cells #[.int .i64 0, .string ⟨#[]⟩] 23))
  clear h
  go_enter Try.func16, Try.ntmps16
  go_wp2_with fail
  refine (HV _).out.mono ?_
  rintro e w2 ⟨rfl, hb2⟩
  obtain ⟨hc, hf⟩ := bcell hb2
  have hs2 := hb2.size
  have hz : w.heap.size + 1 < w2.heap.size := by simp at hs2; omega
  have HB := Lib.hid (HBE.out.trans (hb2.mono (by simp; omega)))
  go_wp2
  refine bodyPost_ret (v := .tuple #[.agg #[.int .i64 0, .string ⟨#[]⟩], .bool false]) (by simp [results, Try.results16, go_sem, hc]) rfl ⟨rfl, ?_⟩
  exact (HB.out.setCell (by simp) _).setCell (by simp) _
set_option maxRecDepth 1000000 in
set_option maxHeartbeats 800000 in
theorem ArrayOf_four (d : Int) (n : ByteArray) (w : World) (h : okT d (L n) = true) (h1 : d = 4) :
    Calls Try.prog 16 #[.agg #[.int .i64 d, .string n]] w fun e w' => e = .returned (.tuple #[.agg #[.int .i64 0, .string ⟨#[]⟩], .bool false]) ∧ Below w.heap.size w w' := by
  subst h1
  have HV := fun W => Lib.hid (tyvalid_at true 4 n W h)
  have HBE := Lib.hid (((Below.refl w.heap.size w).alloc (Nat.le_refl _) (.cells #[.int .i64 4, .string n] 23)).alloc (by simp) (.cells #[.int .i64 0, .string ⟨#[]⟩] 23))
  clear h
  go_enter Try.func16, Try.ntmps16
  go_wp2_with fail
  refine (HV _).out.mono ?_
  rintro e w2 ⟨rfl, hb2⟩
  obtain ⟨hc, hf⟩ := bcell hb2
  have hs2 := hb2.size
  have hz : w.heap.size + 1 < w2.heap.size := by simp at hs2; omega
  have HB := Lib.hid (HBE.out.trans (hb2.mono (by simp; omega)))
  go_wp2
  refine bodyPost_ret (v := .tuple #[.agg #[.int .i64 0, .string ⟨#[]⟩], .bool false]) (by simp [results, Try.results16, go_sem, hc]) rfl ⟨rfl, ?_⟩
  exact (HB.out.setCell (by simp) _).setCell (by simp) _
set_option maxRecDepth 1000000 in
set_option maxHeartbeats 800000 in
theorem refElement_yes (d : Int) (n : ByteArray) (w : World) (hs : n.size ≤ 1000000) (h : okT d (L n) = true) (h1 : 1 ≤ d) :
    Calls Try.prog 15 #[.agg #[.int .i64 d, .string n]] w fun e w' => e = .returned (.tuple #[.agg #[.int .i64 (d - 1), .string n], .bool true]) ∧ Below w.heap.size w w' := by
  have hd := (okT_dims h).2
  have hd' := (okT_dims h).1
  have HV := fun W => Lib.hid (Right_at true d n W hs h)
  have HBE := Lib.hid (((Below.refl w.heap.size w).alloc (Nat.le_refl _) (.cells #[.int .i64 d, .string n] 23)).alloc (by simp) (.cells #[.int .i64 0, .string ⟨#[]⟩] 23))
  clear h
  go_enter Try.func15, Try.ntmps15
  go_wp2_with fail
  refine (HV _).out.mono ?_
  rintro e w2 ⟨rfl, hb2⟩
  obtain ⟨hc, hf⟩ := bcell hb2
  have hs2 := hb2.size
  have hz : w.heap.size + 1 < w2.heap.size := by simp at hs2; omega
  have c0 : w2.cell? ⟨w.heap.size, 0, none⟩ = some (.int .i64 d) := by rw [hc _ _ (by simp; omega)]; go_simp
  have g0 : ∀ v, (w2.setCell ⟨w.heap.size, 0, none⟩ v).cell? ⟨w.heap.size, 0, none⟩ = some v := fun v => World.cell?_setCell_same' w2 _ v (by rw [c0]; rfl)
  have HB := Lib.hid (HBE.out.trans (hb2.mono (by simp; omega)))
  go_wp2
  refine bodyPost_ret (v := .tuple #[.agg #[.int .i64 (d - 1), .string n], .bool true]) (by simp [results, Try.results15, go_sem, hc]) rfl ⟨rfl, ?_⟩
  first
    | exact ((HB.out.setCell (Nat.le_refl _) _).setCell (by simp) _).setCell (by simp) _
    | exact (HB.out.setCell (by simp) _).setCell (by simp) _
set_option maxRecDepth 1000000 in
set_option maxHeartbeats 800000 in
theorem refElement_no (d : Int) (n : ByteArray) (w : World) (hs : n.size ≤ 1000000) (h : okT d (L n) = false) :
    Calls Try.prog 15 #[.agg #[.int .i64 d, .string n]] w fun e w' => e = .returned (.tuple #[.agg #[.int .i64 0, .string ⟨#[]⟩], .bool false]) ∧ Below w.heap.size w w' := by
  have HV := fun W => Lib.hid (Right_at false d n W hs h)
  have HBE := Lib.hid (((Below.refl w.heap.size w).alloc (Nat.le_refl _) (.cells #[.int .i64 d, .string n] 23)).alloc (by simp) (.cells #[.int .i64 0, .string ⟨#[]⟩] 23))
  clear h
  go_enter Try.func15, Try.ntmps15
  go_wp2_with fail
  refine (HV _).out.mono ?_
  rintro e w2 ⟨rfl, hb2⟩
  obtain ⟨hc, hf⟩ := bcell hb2
  have hs2 := hb2.size
  have hz : w.heap.size + 1 < w2.heap.size := by simp at hs2; omega
  have HB := Lib.hid (HBE.out.trans (hb2.mono (by simp; omega)))
  go_wp2
  refine bodyPost_ret (v := .tuple #[.agg #[.int .i64 0, .string ⟨#[]⟩], .bool false]) (by simp [results, Try.results15, go_sem, hc]) rfl ⟨rfl, ?_⟩
  exact (HB.out.setCell (by simp) _).setCell (by simp) _
set_option maxRecDepth 1000000 in
set_option maxHeartbeats 800000 in
theorem refElement_zero (d : Int) (n : ByteArray) (w : World) (hs : n.size ≤ 1000000) (h : okT d (L n) = true) (h1 : d = 0) :
    Calls Try.prog 15 #[.agg #[.int .i64 d, .string n]] w fun e w' => e = .returned (.tuple #[.agg #[.int .i64 0, .string ⟨#[]⟩], .bool false]) ∧ Below w.heap.size w w' := by
  subst h1
  have HV := fun W => Lib.hid (Right_at true 0 n W hs h)
  have HBE := Lib.hid (((Below.refl w.heap.size w).alloc (Nat.le_refl _) (.cells #[.int .i64 0, .string n] 23)).alloc (by simp) (.cells #[.int .i64 0, .string ⟨#[]⟩] 23))
  clear h
  go_enter Try.func15, Try.ntmps15
  go_wp2_with fail
  refine (HV _).out.mono ?_
  rintro e w2 ⟨rfl, hb2⟩
  obtain ⟨hc, hf⟩ := bcell hb2
  have hs2 := hb2.size
  have hz : w.heap.size + 1 < w2.heap.size := by simp at hs2; omega
  have HB := Lib.hid (HBE.out.trans (hb2.mono (by simp; omega)))
  go_wp2
  refine bodyPost_ret (v := .tuple #[.agg #[.int .i64 0, .string ⟨#[]⟩], .bool false]) (by simp [results, Try.results15, go_sem, hc]) rfl ⟨rfl, ?_⟩
  exact (HB.out.setCell (by simp) _).setCell (by simp) _
set_option maxRecDepth 1000000 in
set_option maxHeartbeats 800000 in
theorem refArrayOf_yes (d : Int) (n : ByteArray) (w : World) (hs : n.size ≤ 1000000) (h : okT d (L n) = true) (h1 : d ≤ 3) :
    Calls Try.prog 17 #[.agg #[.int .i64 d, .string n]] w fun e w' => e = .returned (.tuple #[.agg #[.int .i64 (d + 1), .string n], .bool true]) ∧ Below w.heap.size w w' := by
  have hd := (okT_dims h).2
  have hd' := (okT_dims h).1
  have HV := fun W => Lib.hid (Right_at true d n W hs h)
  have HBE := Lib.hid (((Below.refl w.heap.size w).alloc (Nat.le_refl _) (.cells #[.int .i64 d, .string n] 23)).alloc (by simp) (.cells #[.int .i64 0, .string ⟨#[]⟩] 23))
  clear h
  go_enter Try.func17, Try.ntmps17
  go_wp2_with fail
  refine (HV _).out.mono ?_
  rintro e w2 ⟨rfl, hb2⟩
  obtain ⟨hc, hf⟩ := bcell hb2
  have hs2 := hb2.size
  have hz : w.heap.size + 1 < w2.heap.size := by simp at hs2; omega
  have c0 : w2.cell? ⟨w.heap.size, 0, none⟩ = some (.int .i64 d) := by rw [hc _ _ (by simp; omega)]; go_simp
  have g0 : ∀ v, (w2.setCell ⟨w.heap.size, 0, none⟩ v).cell? ⟨w.heap.size, 0, none⟩ = some v := fun v => World.cell?_setCell_same' w2 _ v (by rw [c0]; rfl)
  have HB := Lib.hid (HBE.out.trans (hb2.mono (by simp; omega)))
  go_wp2
  refine bodyPost_ret (v := .tuple #[.agg #[.int .i64 (d + 1), .string n], .bool true]) (by simp [results, Try.results17, go_sem, hc]) rfl ⟨rfl, ?_⟩
  first
    | exact ((HB.out.setCell (Nat.le_refl _) _).setCell (by simp) _).setCell (by simp) _
    | exact (HB.out.setCell (by simp) _).setCell (by simp) _
set_option maxRecDepth 1000000 in
set_option maxHeartbeats 800000 in
theorem refArrayOf_no (d : Int) (n : ByteArray) (w : World) (hs : n.size ≤ 1000000) (h : okT d (L n) = false) :
    Calls Try.prog 17 #[.agg #[.int .i64 d, .string n]] w fun e w' => e = .returned (.tuple #[.agg #[.int .i64 0, .string ⟨#[]⟩], .bool false]) ∧ Below w.heap.size w w' := by
  have HV := fun W => Lib.hid (Right_at false d n W hs h)
  have HBE := Lib.hid (((Below.refl w.heap.size w).alloc (Nat.le_refl _) (.cells #[.int .i64 d, .string n] 23)).alloc (by simp) (.cells #[.int .i64 0, .string ⟨#[]⟩] 23))
  clear h
  go_enter Try.func17, Try.ntmps17
  go_wp2_with fail
  refine (HV _).out.mono ?_
  rintro e w2 ⟨rfl, hb2⟩
  obtain ⟨hc, hf⟩ := bcell hb2
  have hs2 := hb2.size
  have hz : w.heap.size + 1 < w2.heap.size := by simp at hs2; omega
  have HB := Lib.hid (HBE.out.trans (hb2.mono (by simp; omega)))
  go_wp2
  refine bodyPost_ret (v := .tuple #[.agg #[.int .i64 0, .string ⟨#[]⟩], .bool false]) (by simp [results, Try.results17, go_sem, hc]) rfl ⟨rfl, ?_⟩
  exact (HB.out.setCell (by simp) _).setCell (by simp) _
set_option maxRecDepth 1000000 in
set_option maxHeartbeats 800000 in
theorem refArrayOf_four (d : Int) (n : ByteArray) (w : World) (hs : n.size ≤ 1000000) (h : okT d (L n) = true) (h1 : d = 4) :
    Calls Try.prog 17 #[.agg #[.int .i64 d, .string n]] w fun e w' => e = .returned (.tuple #[.agg #[.int .i64 0, .string ⟨#[]⟩], .bool false]) ∧ Below w.heap.size w w' := by
  subst h1
  have HV := fun W => Lib.hid (Right_at true 4 n W hs h)
  have HBE := Lib.hid (((Below.refl w.heap.size w).alloc (Nat.le_refl _) (.cells #[.int .i64 4, .string n] 23)).alloc (by simp) (.cells #[.int .i64 0, .string ⟨#[]⟩] 23))
  clear h
  go_enter Try.func17, Try.ntmps17
  go_wp2_with fail
  refine (HV _).out.mono ?_
  rintro e w2 ⟨rfl, hb2⟩
  obtain ⟨hc, hf⟩ := bcell hb2
  have hs2 := hb2.size
  have hz : w.heap.size + 1 < w2.heap.size := by simp at hs2; omega
  have HB := Lib.hid (HBE.out.trans (hb2.mono (by simp; omega)))
  go_wp2
  refine bodyPost_ret (v := .tuple #[.agg #[.int .i64 0, .string ⟨#[]⟩], .bool false]) (by simp [results, Try.results17, go_sem, hc]) rfl ⟨rfl, ?_⟩
  exact (HB.out.setCell (by simp) _).setCell (by simp) _
/-- What 'Element' and 'ArrayOf' answer. -/
def elV (d : Int) (n : ByteArray) : Value := if okT d (L n) = true ∧ 1 ≤ d then .tuple #[.agg #[.int .i64 (d - 1), .string n], .bool true] else .tuple #[.agg #[.int .i64 0, .string ⟨#[]⟩], .bool false]
def arV (d : Int) (n : ByteArray) : Value := if okT d (L n) = true ∧ d ≤ 3 then .tuple #[.agg #[.int .i64 (d + 1), .string n], .bool true] else .tuple #[.agg #[.int .i64 0, .string ⟨#[]⟩], .bool false]
theorem Element_any (d : Int) (n : ByteArray) (w : World) :
    Calls Try.prog 14 #[.agg #[.int .i64 d, .string n]] w fun e w' => e = .returned (elV d n) ∧ Below w.heap.size w w' := by
  unfold elV
  cases h : okT d (L n) with
  | false => rw [if_neg (by simp)]; exact Element_no d n w h
  | true =>
    have hd := okT_dims h
    by_cases h1 : 1 ≤ d
    · rw [if_pos ⟨rfl, h1⟩]; exact Element_yes d n w h h1
    · rw [if_neg (by simp [h1])]; exact Element_zero d n w h (by omega)
theorem ArrayOf_any (d : Int) (n : ByteArray) (w : World) :
    Calls Try.prog 16 #[.agg #[.int .i64 d, .string n]] w fun e w' => e = .returned (arV d n) ∧ Below w.heap.size w w' := by
  unfold arV
  cases h : okT d (L n) with
  | false => rw [if_neg (by simp)]; exact ArrayOf_no d n w h
  | true =>
    have hd := okT_dims h
    by_cases h1 : d ≤ 3
    · rw [if_pos ⟨rfl, h1⟩]; exact ArrayOf_yes d n w h h1
    · rw [if_neg (by simp [h1])]; exact ArrayOf_four d n w h (by omega)
theorem refElement_any (d : Int) (n : ByteArray) (w : World) (hs : n.size ≤ 1000000) :
    Calls Try.prog 15 #[.agg #[.int .i64 d, .string n]] w fun e w' => e = .returned (elV d n) ∧ Below w.heap.size w w' := by
  unfold elV
  cases h : okT d (L n) with
  | false => rw [if_neg (by simp)]; exact refElement_no d n w hs h
  | true =>
    have hd := okT_dims h
    by_cases h1 : 1 ≤ d
    · rw [if_pos ⟨rfl, h1⟩]; exact refElement_yes d n w hs h h1
    · rw [if_neg (by simp [h1])]; exact refElement_zero d n w hs h (by omega)
theorem refArrayOf_any (d : Int) (n : ByteArray) (w : World) (hs : n.size ≤ 1000000) :
    Calls Try.prog 17 #[.agg #[.int .i64 d, .string n]] w fun e w' => e = .returned (arV d n) ∧ Below w.heap.size w w' := by
  unfold arV
  cases h : okT d (L n) with
  | false => rw [if_neg (by simp)]; exact refArrayOf_no d n w hs h
  | true =>
    have hd := okT_dims h
    by_cases h1 : d ≤ 3
    · rw [if_pos ⟨rfl, h1⟩]; exact refArrayOf_yes d n w hs h h1
    · rw [if_neg (by simp [h1])]; exact refArrayOf_four d n w hs h (by omega)

set_option maxRecDepth 1000000 in
set_option maxHeartbeats 800000 in
theorem refWrite_ok (d : Nat) (n : ByteArray) (w : World) (hs : n.size ≤ 1000000) (h : okT d (L n) = true) :
    Calls Try.prog 13 #[.agg #[.int .i64 (d : Int), .string n]] w fun e w' => e = .returned (.tuple #[.string (mkB (descT (d, L n))), .int .i64 0]) ∧ Below w.heap.size w w' := by
  have hsz := okT_name_le h
  have hd := (okT_dims h).2
  have hd4 : d ≤ 4 := by omega
  have HBE := Lib.hid ((Below.refl w.heap.size w).alloc (Nat.le_refl _) (.cells #[.int .i64 (d : Int), .string n] 23))
  have HV := fun W => Lib.hid (Right_at true d n W hs h)
  clear h hd
  go_enter Try.func13, Try.ntmps13
  go_wp2_with fail
  refine (HV _).out.mono ?_
  rintro e w2 ⟨rfl, hb2⟩
  obtain ⟨hc, hf⟩ := bcell hb2
  have hs2 := hb2.size
  have HB := Lib.hid (HBE.out.trans (hb2.mono (by simp)))
  have c0 : w2.cell? ⟨w.heap.size, 0, none⟩ = some (.int .i64 (d : Int)) := by rw [hc _ _ (by simp)]; go_simp
  have c1 : w2.cell? ⟨w.heap.size, 1, none⟩ = some (.string n) := by rw [hc _ _ (by simp)]; go_simp
  clear hc hf hb2 hs2
  go_wp2
  go_loop [5, 6] (fun s i => ∃ (k : Nat) (S : ByteArray), k ≤ d ∧ i = .int .i64 k ∧ s = .string S ∧ L S = List.replicate k 91) (fun _ i => d - (intOf i).toNat)
  case atStart => exact ⟨0, ⟨#[]⟩, Nat.zero_le _, rfl, rfl, rfl⟩
  case round =>
    obtain ⟨k, S, hk, rfl, rfl, hS⟩ := hrel
    have hSs : S.size ≤ 4 := by rw [size_L, hS, List.length_replicate]; omega
    have HS := Lib.hid hS
    clear hS
    by_cases hlt : k < d
    · go_wp2
      go_round
      case rel => exact ⟨k + 1, _, by omega, by go_num, rfl, by rw [L_append, HS.out, List.replicate_succ']⟩
      case measure => simp [intOf]; omega
    · have hkd : k = d := by omega
      have HK := Lib.hid hkd
      clear hkd
      go_wp2
      · have he : n.toList.isEmpty = true := by assumption
        go_ret2
        refine ⟨?_, HB.out⟩
        have e : S ++ ⟨#[73]⟩ = mkB (descT (d, L n)) := eq_mkB (by
          rw [L_append, HS.out, descT, HK.out]
          simp only
          rw [if_pos (emp_L he)])
        rw [e]
        rfl
      · have he : L n ≠ [] := by first | exact nemp_L (by assumption) | exact nemp_L' (by assumption)
        go_ret2
        refine ⟨?_, HB.out⟩
        have e : S ++ ⟨#[76]⟩ ++ n ++ ⟨#[59]⟩ = mkB (descT (d, L n)) := eq_mkB (by
          rw [L_append, L_append, L_append, HS.out, descT, HK.out]
          simp only
          rw [if_neg he]
          show (List.replicate d 91 ++ [76] ++ L n ++ [59]) = _
          simp)
        rw [e]
        rfl
set_option maxRecDepth 1000000 in
set_option maxHeartbeats 800000 in
theorem refWrite_no (d : Int) (n : ByteArray) (w : World) (hs : n.size ≤ 1000000) (h : okT d (L n) = false) :
    Calls Try.prog 13 #[.agg #[.int .i64 d, .string n]] w fun e w' => e = .returned (.tuple #[.string ⟨#[]⟩, .int .i64 9]) ∧ Below w.heap.size w w' := by
  have HBE := Lib.hid ((Below.refl w.heap.size w).alloc (Nat.le_refl _) (.cells #[.int .i64 d, .string n] 23))
  have HV := fun W => Lib.hid (Right_at false d n W hs h)
  clear h
  go_enter Try.func13, Try.ntmps13
  go_wp2_with fail
  refine (HV _).out.mono ?_
  rintro e w2 ⟨rfl, hb2⟩
  have hb2 := HBE.out.trans (hb2.mono (by simp))
  go_wp2
  go_ret2
  exact ⟨rfl, hb2⟩
theorem refWrite_any (d : Int) (n : ByteArray) (w : World) (hs : n.size ≤ 1000000) :
    Calls Try.prog 13 #[.agg #[.int .i64 d, .string n]] w fun e w' => e = .returned (.tuple #[.string (wrA d (L n)), .int .i64 (wrE d (L n))]) ∧ Below w.heap.size w w' := by
  cases h : okT d (L n) with
  | false =>
    rw [(wr_no h).1, (wr_no h).2]
    exact refWrite_no d n w hs h
  | true =>
    rw [(wr_ok h).1, (wr_ok h).2]
    have hd := okT_dims h
    have e : ((d.toNat : Nat) : Int) = d := by omega
    have := refWrite_ok d.toNat n w hs (by rw [e]; exact h)
    rwa [e] at this
end Go.Proofs.Ytamafgpconfipaa
