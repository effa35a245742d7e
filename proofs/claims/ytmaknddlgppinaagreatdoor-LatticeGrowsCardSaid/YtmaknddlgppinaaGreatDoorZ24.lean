/-
  CUT and joined from the texts of this seat: A3 E11
-/
import Derived.Test.YtmaknddlgppinaaGreatDoorZ23
set_option linter.unusedVariables false
set_option linter.unusedSimpArgs false
namespace Go.Proofs.YtmaknddlgppinaaGreatDoor
open Go.RowKit
theorem encA_le (l : List UInt8) : (encA l).length ≤ 65535 := by
 unfold encA
 split
 ·rename_i h; exact h.2
 ·simp
/-- The bytes of a constant. -/
def restN (c : Cn) : List UInt8 :=
 if c.tag = 1 then textN (mkB (encA (L c.text))) else if c.tag = 2 then beN 8 c.n else if c.tag = 5 ∨ c.tag = 6 then linksN [c.a, c.b, c.c] else linksN [c.a]
def constN (c : Cn) : List UInt8 := beN 1 c.tag ++ restN c
set_option maxRecDepth 1000000 in
set_option maxHeartbeats 6400000 in
theorem appendConst_any (c : Cn) (hc : c.text.size ≤ 1000000000000000) (v : Value) (l : List UInt8) (base : Nat) (w : World) (hown : OwnB w base v l) (hl : l.length ≤ 700000000) (hb : base ≤ w.heap.size) :
  Calls Tryz.prog 159 #[v, .agg #[.int .i64 c.tag, .string c.text, .int .i64 c.n, .int .i64 c.a, .int .i64 c.b, .int .i64 c.c]] w fun e w' => ∃ v', e = .returned v' ∧ OwnB w' base v' (l ++ constN c) ∧ Kept base w w' := by
 obtain ⟨tag, text, n, a, b, d⟩ := c
 simp only at hc ⊢
 have HR0 := Lib.hid (show constN ⟨tag, text, n, a, b, d⟩ = beN 1 tag ++ restN ⟨tag, text, n, a, b, d⟩ from rfl)
 have HRR := Lib.hid (show restN ⟨tag, text, n, a, b, d⟩ = if tag = 1 then textN (mkB (encA (L text))) else if tag = 2 then beN 8 n else if tag = 5 ∨ tag = 6 then linksN [a, b, d] else linksN [a] from rfl)
 have htg : tag = 1 ∨ tag = 2 ∨ tag = 5 ∨ tag = 6 ∨ (tag ≠ 1 ∧ tag ≠ 2 ∧ tag ≠ 5 ∧ tag ≠ 6) := by omega
 generalize constN ⟨tag, text, n, a, b, d⟩ = R at *
 rcases htg with rfl | rfl | rfl | rfl | ⟨h1, h2, h5, h6⟩
 ·have HR := Lib.hid (show R = beN 1 1 ++ textN (mkB (encA (L text))) by rw [HR0.out, HRR.out, if_pos rfl])
  have HE := fun W => Lib.hid (Encode_any text W (by omega))
  have hA := encA_le (L text)
  have HTX := Lib.hid (fun v W => appendText_any (mkB (encA (L text))) (by rw [size_L]; show (encA (L text)).length ≤ 100000; omega) v (l ++ beN 1 1) base W)
  obtain ⟨A, hA⟩ : ∃ A, mkB (encA (L text)) = A := ⟨_, rfl⟩
  rw [show strV (encA (L text)) = .string (mkB (encA (L text))) from rfl] at HE
  rw [hA] at HE HTX HR
  clear hA
  have HO := Lib.hid (hown.alloc (.cells #[.int .i64 1, .string text, .int .i64 n, .int .i64 a, .int .i64 b, .int .i64 d] 138))
  have HK := Lib.hid ((Kept.refl base w).alloc hb (.cells #[.int .i64 1, .string text, .int .i64 n, .int .i64 a, .int .i64 b, .int .i64 d] 138))
  have CB := Lib.hid (heap_new w (.cells #[.int .i64 1, .string text, .int .i64 n, .int .i64 a, .int .i64 b, .int .i64 d] 138))
  have HN := Lib.hid (fun v W h h1 h2 => appendNumber_1 1 v l base W h h1 h2)
  clear hown
  go_enter Tryz.func159, Tryz.ntmps159
  go_wp2_with fail
  refine (HN.out _ _ HO.out (by omega) (by simp; omega)).mono ?_
  rintro e w1 ⟨v1, rfl, hown1, hk1⟩
  have HO1 := Lib.hid hown1
  have HK1 := Lib.hid (HK.out.trans hk1)
  have CB1 := Lib.hid (hk1.other _ _ _ _ (by decide) CB.out)
  have hs1 := HK1.out.size
  have lt1 := lt_of_block CB1.out
  have m0 : w1.cell? ⟨w.heap.size, 0, none⟩ = some (.int .i64 1) := cells_of CB1.out 0
  have m1 : w1.cell? ⟨w.heap.size, 1, none⟩ = some (.string text) := cells_of CB1.out 1
  have m2 : w1.cell? ⟨w.heap.size, 2, none⟩ = some (.int .i64 n) := cells_of CB1.out 2
  have m3 : w1.cell? ⟨w.heap.size, 3, none⟩ = some (.int .i64 a) := cells_of CB1.out 3
  have m4 : w1.cell? ⟨w.heap.size, 4, none⟩ = some (.int .i64 b) := cells_of CB1.out 4
  have m5 : w1.cell? ⟨w.heap.size, 5, none⟩ = some (.int .i64 d) := cells_of CB1.out 5
  clear hown1 hk1
  go_wp2_with fail
  refine (HE _).out.mono ?_
  rintro e w2 ⟨rfl, hb2⟩
  have HO2 := Lib.hid (HO1.out.below hb2)
  have HK2 := Lib.hid (HK1.out.link (by omega) hb2)
  have hs2 := HK2.out.size
  clear hb2 m0 m1 m2 m3 m4 m5
  go_wp2_with fail
  refine (HTX.out _ _ HO2.out (by rw [List.length_append, beN_length]; omega) (by omega)).mono ?_
  rintro e w3 ⟨v3, rfl, hown3, hk3⟩
  have HO3 := Lib.hid hown3
  have HK3 := Lib.hid (HK2.out.trans hk3)
  clear hown3 hk3
  go_wp2
  go_ret
  exact ⟨_, rfl, by rw [HR.out, ← List.append_assoc]; exact HO3.out, HK3.out⟩
 ·have HR := Lib.hid (show R = beN 1 2 ++ beN 8 n by rw [HR0.out, HRR.out]; rfl)
  have HO := Lib.hid (hown.alloc (.cells #[.int .i64 2, .string text, .int .i64 n, .int .i64 a, .int .i64 b, .int .i64 d] 138))
  have HK := Lib.hid ((Kept.refl base w).alloc hb (.cells #[.int .i64 2, .string text, .int .i64 n, .int .i64 a, .int .i64 b, .int .i64 d] 138))
  have CB := Lib.hid (heap_new w (.cells #[.int .i64 2, .string text, .int .i64 n, .int .i64 a, .int .i64 b, .int .i64 d] 138))
  have HN := Lib.hid (fun v W h h1 h2 => appendNumber_1 2 v l base W h h1 h2)
  clear hown
  go_enter Tryz.func159, Tryz.ntmps159
  go_wp2_with fail
  refine (HN.out _ _ HO.out (by omega) (by simp; omega)).mono ?_
  rintro e w1 ⟨v1, rfl, hown1, hk1⟩
  have HO1 := Lib.hid hown1
  have HK1 := Lib.hid (HK.out.trans hk1)
  have CB1 := Lib.hid (hk1.other _ _ _ _ (by decide) CB.out)
  have hs1 := HK1.out.size
  have lt1 := lt_of_block CB1.out
  have m0 : w1.cell? ⟨w.heap.size, 0, none⟩ = some (.int .i64 2) := cells_of CB1.out 0
  have m1 : w1.cell? ⟨w.heap.size, 1, none⟩ = some (.string text) := cells_of CB1.out 1
  have m2 : w1.cell? ⟨w.heap.size, 2, none⟩ = some (.int .i64 n) := cells_of CB1.out 2
  have m3 : w1.cell? ⟨w.heap.size, 3, none⟩ = some (.int .i64 a) := cells_of CB1.out 3
  have m4 : w1.cell? ⟨w.heap.size, 4, none⟩ = some (.int .i64 b) := cells_of CB1.out 4
  have m5 : w1.cell? ⟨w.heap.size, 5, none⟩ = some (.int .i64 d) := cells_of CB1.out 5
  clear hown1 hk1
  have HC := Lib.hid (fun v W => appendNumber_8 n v (l ++ beN 1 2) base W)
  go_wp2_with fail
  refine (HC.out _ _ HO1.out (by rw [List.length_append, beN_length]; omega) (by omega)).mono ?_
  rintro e w2 ⟨v2, rfl, hown2, hk2⟩
  have HO2 := Lib.hid hown2
  have HK2 := Lib.hid (HK1.out.trans hk2)
  clear hown2 hk2 m0 m1 m2 m3 m4 m5
  go_wp2
  go_ret
  exact ⟨_, rfl, by rw [HR.out, ← List.append_assoc]; exact HO2.out, HK2.out⟩
 ·have HR := Lib.hid (show R = beN 1 5 ++ linksN [a, b, d] by rw [HR0.out, HRR.out]; rfl)
  have HO := Lib.hid (hown.alloc (.cells #[.int .i64 5, .string text, .int .i64 n, .int .i64 a, .int .i64 b, .int .i64 d] 138))
  have HK := Lib.hid ((Kept.refl base w).alloc hb (.cells #[.int .i64 5, .string text, .int .i64 n, .int .i64 a, .int .i64 b, .int .i64 d] 138))
  have CB := Lib.hid (heap_new w (.cells #[.int .i64 5, .string text, .int .i64 n, .int .i64 a, .int .i64 b, .int .i64 d] 138))
  have HN := Lib.hid (fun v W h h1 h2 => appendNumber_1 5 v l base W h h1 h2)
  clear hown
  go_enter Tryz.func159, Tryz.ntmps159
  go_wp2_with fail
  refine (HN.out _ _ HO.out (by omega) (by simp; omega)).mono ?_
  rintro e w1 ⟨v1, rfl, hown1, hk1⟩
  have HO1 := Lib.hid hown1
  have HK1 := Lib.hid (HK.out.trans hk1)
  have CB1 := Lib.hid (hk1.other _ _ _ _ (by decide) CB.out)
  have hs1 := HK1.out.size
  have lt1 := lt_of_block CB1.out
  have m0 : w1.cell? ⟨w.heap.size, 0, none⟩ = some (.int .i64 5) := cells_of CB1.out 0
  have m1 : w1.cell? ⟨w.heap.size, 1, none⟩ = some (.string text) := cells_of CB1.out 1
  have m2 : w1.cell? ⟨w.heap.size, 2, none⟩ = some (.int .i64 n) := cells_of CB1.out 2
  have m3 : w1.cell? ⟨w.heap.size, 3, none⟩ = some (.int .i64 a) := cells_of CB1.out 3
  have m4 : w1.cell? ⟨w.heap.size, 4, none⟩ = some (.int .i64 b) := cells_of CB1.out 4
  have m5 : w1.cell? ⟨w.heap.size, 5, none⟩ = some (.int .i64 d) := cells_of CB1.out 5
  clear hown1 hk1
  have HC := Lib.hid (fun v W I => appendLinks_any [a, b, d] (by simp) I v (l ++ beN 1 5) base W)
  go_wp2_with fail
  refine (HC.out _ (w1.alloc (.cells #[.int .i64 a, .int .i64 b, .int .i64 d] 3)) w1.heap.size (heap_new _ _) (HO1.out.alloc _) (by rw [List.length_append, beN_length]; omega) (by simp; omega)).mono ?_
  rintro e w2 ⟨v2, rfl, hown2, hk2⟩
  have HO2 := Lib.hid hown2
  have HK2 := Lib.hid ((HK1.out.alloc (by omega) (.cells #[.int .i64 a, .int .i64 b, .int .i64 d] 3)).trans hk2)
  clear hown2 hk2 m0 m1 m2 m3 m4 m5
  go_wp2
  go_ret
  exact ⟨_, rfl, by rw [HR.out, ← List.append_assoc]; exact HO2.out, HK2.out⟩
 ·have HR := Lib.hid (show R = beN 1 6 ++ linksN [a, b, d] by rw [HR0.out, HRR.out]; rfl)
  have HO := Lib.hid (hown.alloc (.cells #[.int .i64 6, .string text, .int .i64 n, .int .i64 a, .int .i64 b, .int .i64 d] 138))
  have HK := Lib.hid ((Kept.refl base w).alloc hb (.cells #[.int .i64 6, .string text, .int .i64 n, .int .i64 a, .int .i64 b, .int .i64 d] 138))
  have CB := Lib.hid (heap_new w (.cells #[.int .i64 6, .string text, .int .i64 n, .int .i64 a, .int .i64 b, .int .i64 d] 138))
  have HN := Lib.hid (fun v W h h1 h2 => appendNumber_1 6 v l base W h h1 h2)
  clear hown
  go_enter Tryz.func159, Tryz.ntmps159
  go_wp2_with fail
  refine (HN.out _ _ HO.out (by omega) (by simp; omega)).mono ?_
  rintro e w1 ⟨v1, rfl, hown1, hk1⟩
  have HO1 := Lib.hid hown1
  have HK1 := Lib.hid (HK.out.trans hk1)
  have CB1 := Lib.hid (hk1.other _ _ _ _ (by decide) CB.out)
  have hs1 := HK1.out.size
  have lt1 := lt_of_block CB1.out
  have m0 : w1.cell? ⟨w.heap.size, 0, none⟩ = some (.int .i64 6) := cells_of CB1.out 0
  have m1 : w1.cell? ⟨w.heap.size, 1, none⟩ = some (.string text) := cells_of CB1.out 1
  have m2 : w1.cell? ⟨w.heap.size, 2, none⟩ = some (.int .i64 n) := cells_of CB1.out 2
  have m3 : w1.cell? ⟨w.heap.size, 3, none⟩ = some (.int .i64 a) := cells_of CB1.out 3
  have m4 : w1.cell? ⟨w.heap.size, 4, none⟩ = some (.int .i64 b) := cells_of CB1.out 4
  have m5 : w1.cell? ⟨w.heap.size, 5, none⟩ = some (.int .i64 d) := cells_of CB1.out 5
  clear hown1 hk1
  have HC := Lib.hid (fun v W I => appendLinks_any [a, b, d] (by simp) I v (l ++ beN 1 6) base W)
  go_wp2_with fail
  refine (HC.out _ (w1.alloc (.cells #[.int .i64 a, .int .i64 b, .int .i64 d] 3)) w1.heap.size (heap_new _ _) (HO1.out.alloc _) (by rw [List.length_append, beN_length]; omega) (by simp; omega)).mono ?_
  rintro e w2 ⟨v2, rfl, hown2, hk2⟩
  have HO2 := Lib.hid hown2
  have HK2 := Lib.hid ((HK1.out.alloc (by omega) (.cells #[.int .i64 a, .int .i64 b, .int .i64 d] 3)).trans hk2)
  clear hown2 hk2 m0 m1 m2 m3 m4 m5
  go_wp2
  go_ret
  exact ⟨_, rfl, by rw [HR.out, ← List.append_assoc]; exact HO2.out, HK2.out⟩
 ·have HR := Lib.hid (show R = beN 1 tag ++ linksN [a] by rw [HR0.out, HRR.out, if_neg h1, if_neg h2, if_neg (by omega)])
  have g1 : (tag == 1) = false := by simpa using h1
  have g2 : (tag == 2) = false := by simpa using h2
  have g5 : (tag == 5) = false := by simpa using h5
  have g6 : (tag == 6) = false := by simpa using h6
  clear h1 h2 h5 h6
  have HO := Lib.hid (hown.alloc (.cells #[.int .i64 tag, .string text, .int .i64 n, .int .i64 a, .int .i64 b, .int .i64 d] 138))
  have HK := Lib.hid ((Kept.refl base w).alloc hb (.cells #[.int .i64 tag, .string text, .int .i64 n, .int .i64 a, .int .i64 b, .int .i64 d] 138))
  have CB := Lib.hid (heap_new w (.cells #[.int .i64 tag, .string text, .int .i64 n, .int .i64 a, .int .i64 b, .int .i64 d] 138))
  have HN := Lib.hid (fun v W h h1 h2 => appendNumber_1 tag v l base W h h1 h2)
  clear hown
  go_enter Tryz.func159, Tryz.ntmps159
  go_wp2_with fail
  refine (HN.out _ _ HO.out (by omega) (by simp; omega)).mono ?_
  rintro e w1 ⟨v1, rfl, hown1, hk1⟩
  have HO1 := Lib.hid hown1
  have HK1 := Lib.hid (HK.out.trans hk1)
  have CB1 := Lib.hid (hk1.other _ _ _ _ (by decide) CB.out)
  have hs1 := HK1.out.size
  have lt1 := lt_of_block CB1.out
  have m0 : w1.cell? ⟨w.heap.size, 0, none⟩ = some (.int .i64 tag) := cells_of CB1.out 0
  have m1 : w1.cell? ⟨w.heap.size, 1, none⟩ = some (.string text) := cells_of CB1.out 1
  have m2 : w1.cell? ⟨w.heap.size, 2, none⟩ = some (.int .i64 n) := cells_of CB1.out 2
  have m3 : w1.cell? ⟨w.heap.size, 3, none⟩ = some (.int .i64 a) := cells_of CB1.out 3
  have m4 : w1.cell? ⟨w.heap.size, 4, none⟩ = some (.int .i64 b) := cells_of CB1.out 4
  have m5 : w1.cell? ⟨w.heap.size, 5, none⟩ = some (.int .i64 d) := cells_of CB1.out 5
  clear hown1 hk1
  have HC := Lib.hid (fun v W I => appendLinks_any [a] (by simp) I v (l ++ beN 1 tag) base W)
  go_wp2_with fail
  refine (HC.out _ (w1.alloc (.cells #[.int .i64 a] 3)) w1.heap.size (heap_new _ _) (HO1.out.alloc _) (by rw [List.length_append, beN_length]; omega) (by simp; omega)).mono ?_
  rintro e w2 ⟨v2, rfl, hown2, hk2⟩
  have HO2 := Lib.hid hown2
  have HK2 := Lib.hid ((HK1.out.alloc (by omega) (.cells #[.int .i64 a] 3)).trans hk2)
  clear hown2 hk2 m0 m1 m2 m3 m4 m5
  go_wp2
  go_ret
  exact ⟨_, rfl, by rw [HR.out, ← List.append_assoc]; exact HO2.out, HK2.out⟩
/-- A row with its length ahead. -/
def listN {α : Type} (k : Nat) (f : α → List UInt8) (xs : List α) : List UInt8 := beN k xs.length ++ xs.flatMap f
theorem flat_le {α : Type} (f : α → List UInt8) (C : Nat) : ∀ (xs : List α), (∀ x ∈ xs, (f x).length ≤ C) → (xs.flatMap f).length ≤ C * xs.length
 | [], _ => by simp
 | x :: r, h => by
  have h1 := h x (by simp)
  have h2 := flat_le f C r (fun y hy => h y (by simp [hy]))
  rw [List.flatMap_cons, List.length_append, List.length_cons, Nat.mul_add]
  omega
theorem flat_next {α : Type} (f : α → List UInt8) {xs : List α} {k : Nat} {x : α} (hx : xs[k]? = some x) : (xs.take (k + 1)).flatMap f = (xs.take k).flatMap f ++ f x := by
 obtain ⟨hk, rfl⟩ := List.getElem?_eq_some_iff.1 hx
 rw [List.take_succ_eq_append_getElem hk, List.flatMap_append]
 simp
theorem take_le {α : Type} (f : α → List UInt8) (C N : Nat) (xs : List α) (h : ∀ x ∈ xs, (f x).length ≤ C) (hN : xs.length ≤ N) (k : Nat) : ((xs.take k).flatMap f).length ≤ C * N := by
 refine Nat.le_trans (flat_le f C (xs.take k) (fun x hx => h x (List.mem_of_mem_take hx))) (Nat.mul_le_mul_left C ?_)
 rw [List.length_take]
 omega
theorem constN_le (c : Cn) : (constN c).length ≤ 65545 := by
 unfold constN restN
 have := encA_le (L c.text)
 rw [List.length_append, beN_length]
 split
 ·unfold textN
  rw [List.length_append, beN_length]
  show 1 + (2 + (encA (L c.text)).length) ≤ _
  omega
 ·split
  ·rw [beN_length]; omega
  ·split <;> (rw [linksN_length]; simp)
theorem headN_len (m : Mb) : (headN m).length = 5 := by unfold headN; rw [List.length_append, beN_length, linksN_length]; rfl
theorem hdlN_len (h : Hd) : (hdlN h).length = 8 := by unfold hdlN; rw [linksN_length]; rfl
set_option maxRecDepth 1000000 in
set_option maxHeartbeats 6400000 in
theorem listHandler_any {B : Nat} (xs : List Hd)  (A : Option Addr) (cap : Nat) (v : Value) (l : List UInt8) (base : Nat) (w : World) (hx : HRow B w (.slice A xs.length cap) xs) (hB : B ≤ base) (hn : xs.length ≤ 1000) (hown : OwnB w base v l) (hl : l.length ≤ 400000000) (hb : base ≤ w.heap.size) :
  Calls Tryz.prog 187 #[v, .int .i64 1, .slice A xs.length cap, .func (.func 188) #[] #[]] w fun e w' => ∃ v', e = .returned v' ∧ OwnB w' base v' (l ++ listN 1 hdlN xs) ∧ Kept base w w' := by
 have HC := Lib.hid (appendNumber_1 (xs.length : Int) v l base w hown (by omega) hb)
 have HX := Lib.hid hx
 have HLL := Lib.hid (take_le hdlN 8 1000 xs (fun h _ => by rw [hdlN_len]; omega) hn)
 clear hx hown
 go_enter Tryz.func187, Tryz.ntmps187
 go_wp2_with fail
 refine HC.out.mono ?_
 rintro e w1 ⟨v1, rfl, hown, hk⟩
 have HO1 := Lib.hid hown
 have HK1 := Lib.hid hk
 have hs1 := hk.size
 clear hown hk
 go_wp2
 go_loopg [0, 18] xs.length (fun g bv iv wx => ∃ k : Nat, iv = .int .i64 k ∧ k + g = xs.length ∧ OwnB wx base bv (l ++ beN 1 xs.length ++ (xs.take k).flatMap hdlN) ∧ Kept base w wx)
 case atStart => exact ⟨0, rfl, by omega, by simpa using HO1.out, HK1.out⟩
 case round =>
  obtain ⟨k, rfl, hkg, hown, hk⟩ := hrel
  have HO2 := Lib.hid hown
  have HK2 := Lib.hid hk
  have hs2 := hk.size
  clear hown hk
  by_cases hlt : k < xs.length
  ·have hgg : gk - 1 < gk := by omega
   obtain ⟨x, hx⟩ : ∃ x, xs[k]? = some x := ⟨_, List.getElem?_eq_getElem hlt⟩
   obtain ⟨b, o, rfl, hbb, x0, x1, x2, x3⟩ := (show HRow B wr (.slice A xs.length cap) xs from Row.keep HX.out (fun p hp => HK2.out.below.cell (p := p) (by omega))).at_ hx
   have HNX := Lib.hid (flat_next hdlN hx)
   have hll : (l ++ beN 1 xs.length ++ (xs.take k).flatMap hdlN).length ≤ 700000000 := by
    have := HLL.out k
    rw [List.length_append, List.length_append, beN_length]
    omega
   have HO3 := Lib.hid (HO2.out.alloc (.cells #[.int .i64 x.fr, .int .i64 x.to, .int .i64 x.at_, .int .i64 x.cl] 170))
   have HK3 := Lib.hid (HK2.out.alloc (by omega) (.cells #[.int .i64 x.fr, .int .i64 x.to, .int .i64 x.at_, .int .i64 x.cl] 170))
   have HCC := Lib.hid (appendHandler_any x _ (l ++ beN 1 xs.length ++ (xs.take k).flatMap hdlN) base (wr.alloc (.cells #[.int .i64 x.fr, .int .i64 x.to, .int .i64 x.at_, .int .i64 x.cl] 170)) HO3.out (Nat.le_trans hll (by omega)) (by simp; omega))
   clear hx hll
   go_wp2_with fail
   refine HCC.out.mono ?_
   rintro e w3 ⟨v3, rfl, hown, hk⟩
   have HO4 := Lib.hid hown
   have HK4 := Lib.hid (HK3.out.trans hk)
   clear hown hk
   go_wp2
   go_roundg (gk - 1)
   case measure => exact hgg
   case rel => exact ⟨k + 1, by go_num, by omega, by rw [HNX.out, ← List.append_assoc]; exact HO4.out, HK4.out⟩
  ·have HF := Lib.hid (show OwnB wr base _ (l ++ listN 1 hdlN xs) by
    have := HO2.out
    rw [List.take_of_length_le (by omega)] at this
    unfold listN
    rw [← List.append_assoc]
    exact this)
   go_wp2
   go_ret
   exact ⟨_, rfl, HF.out, HK2.out⟩
set_option maxRecDepth 1000000 in
set_option maxHeartbeats 6400000 in
theorem listInt_any {B : Nat} (xs : List Int)  (A : Option Addr) (cap : Nat) (v : Value) (l : List UInt8) (base : Nat) (w : World) (hx : IRow B w (.slice A xs.length cap) xs) (hB : B ≤ base) (hn : xs.length ≤ 1000) (hown : OwnB w base v l) (hl : l.length ≤ 400000000) (hb : base ≤ w.heap.size) :
  Calls Tryz.prog 162 #[v, .int .i64 1, .slice A xs.length cap, .func (.func 163) #[] #[]] w fun e w' => ∃ v', e = .returned v' ∧ OwnB w' base v' (l ++ listN 1 (fun i => linksN [i]) xs) ∧ Kept base w w' := by
 have HC := Lib.hid (appendNumber_1 (xs.length : Int) v l base w hown (by omega) hb)
 have HX := Lib.hid hx
 have HLL := Lib.hid (take_le (fun i => linksN [i]) 2 1000 xs (fun i _ => by rw [linksN_length]; simp) hn)
 clear hx hown
 go_enter Tryz.func162, Tryz.ntmps162
 go_wp2_with fail
 refine HC.out.mono ?_
 rintro e w1 ⟨v1, rfl, hown, hk⟩
 have HO1 := Lib.hid hown
 have HK1 := Lib.hid hk
 have hs1 := hk.size
 clear hown hk
 go_wp2
 go_loopg [0, 18] xs.length (fun g bv iv wx => ∃ k : Nat, iv = .int .i64 k ∧ k + g = xs.length ∧ OwnB wx base bv (l ++ beN 1 xs.length ++ (xs.take k).flatMap (fun i => linksN [i])) ∧ Kept base w wx)
 case atStart => exact ⟨0, rfl, by omega, by simpa using HO1.out, HK1.out⟩
 case round =>
  obtain ⟨k, rfl, hkg, hown, hk⟩ := hrel
  have HO2 := Lib.hid hown
  have HK2 := Lib.hid hk
  have hs2 := hk.size
  clear hown hk
  by_cases hlt : k < xs.length
  ·have hgg : gk - 1 < gk := by omega
   obtain ⟨x, hx⟩ : ∃ x, xs[k]? = some x := ⟨_, List.getElem?_eq_getElem hlt⟩
   obtain ⟨b, o, rfl, hbb, x0⟩ := (show IRow B wr (.slice A xs.length cap) xs from Row.keep HX.out (fun p hp => HK2.out.below.cell (p := p) (by omega))).at_ hx
   have HNX := Lib.hid (flat_next (fun i => linksN [i]) hx)
   have hll : (l ++ beN 1 xs.length ++ (xs.take k).flatMap (fun i => linksN [i])).length ≤ 700000000 := by
    have := HLL.out k
    rw [List.length_append, List.length_append, beN_length]
    omega
   have HCC := Lib.hid (appendLink_any x _ (l ++ beN 1 xs.length ++ (xs.take k).flatMap (fun i => linksN [i])) base wr HO2.out (Nat.le_trans hll (by omega)) (by omega))
   clear hx hll
   go_wp2_with fail
   refine HCC.out.mono ?_
   rintro e w3 ⟨v3, rfl, hown, hk⟩
   have HO4 := Lib.hid hown
   have HK4 := Lib.hid (HK2.out.trans hk)
   clear hown hk
   go_wp2
   go_roundg (gk - 1)
   case measure => exact hgg
   case rel => exact ⟨k + 1, by go_num, by omega, by rw [HNX.out, ← List.append_assoc]; exact HO4.out, HK4.out⟩
  ·have HF := Lib.hid (show OwnB wr base _ (l ++ listN 1 (fun i => linksN [i]) xs) by
    have := HO2.out
    rw [List.take_of_length_le (by omega)] at this
    unfold listN
    rw [← List.append_assoc]
    exact this)
   go_wp2
   go_ret
   exact ⟨_, rfl, HF.out, HK2.out⟩
set_option maxRecDepth 1000000 in
set_option maxHeartbeats 6400000 in
theorem listField_any {B : Nat} (xs : List Mb)  (A : Option Addr) (cap : Nat) (v : Value) (l : List UInt8) (base : Nat) (w : World) (hx : MRow B w (.slice A xs.length cap) xs) (hB : B ≤ base) (hn : xs.length ≤ 1000) (hown : OwnB w base v l) (hl : l.length ≤ 400000000) (hb : base ≤ w.heap.size) :
  Calls Tryz.prog 164 #[v, .int .i64 1, .slice A xs.length cap, .func (.func 165) #[] #[]] w fun e w' => ∃ v', e = .returned v' ∧ OwnB w' base v' (l ++ listN 1 headN xs) ∧ Kept base w w' := by
 have HC := Lib.hid (appendNumber_1 (xs.length : Int) v l base w hown (by omega) hb)
 have HX := Lib.hid hx
 have HLL := Lib.hid (take_le headN 5 1000 xs (fun m _ => by rw [headN_len]; omega) hn)
 clear hx hown
 go_enter Tryz.func164, Tryz.ntmps164
 go_wp2_with fail
 refine HC.out.mono ?_
 rintro e w1 ⟨v1, rfl, hown, hk⟩
 have HO1 := Lib.hid hown
 have HK1 := Lib.hid hk
 have hs1 := hk.size
 clear hown hk
 go_wp2
 go_loopg [0, 18] xs.length (fun g bv iv wx => ∃ k : Nat, iv = .int .i64 k ∧ k + g = xs.length ∧ OwnB wx base bv (l ++ beN 1 xs.length ++ (xs.take k).flatMap headN) ∧ Kept base w wx)
 case atStart => exact ⟨0, rfl, by omega, by simpa using HO1.out, HK1.out⟩
 case round =>
  obtain ⟨k, rfl, hkg, hown, hk⟩ := hrel
  have HO2 := Lib.hid hown
  have HK2 := Lib.hid hk
  have hs2 := hk.size
  clear hown hk
  by_cases hlt : k < xs.length
  ·have hgg : gk - 1 < gk := by omega
   obtain ⟨x, hx⟩ : ∃ x, xs[k]? = some x := ⟨_, List.getElem?_eq_getElem hlt⟩
   obtain ⟨b, o, A2, c2, rfl, hbb, hrow, x0, x1, x2, x3, x4, x5, x6⟩ := (show MRow B wr (.slice A xs.length cap) xs from MRow.keep HX.out (fun p hp => HK2.out.below.cell (p := p) (by omega))).at_ hx
   have HNX := Lib.hid (flat_next headN hx)
   have hll : (l ++ beN 1 xs.length ++ (xs.take k).flatMap headN).length ≤ 700000000 := by
    have := HLL.out k
    rw [List.length_append, List.length_append, beN_length]
    omega
   have HO3 := Lib.hid (HO2.out.alloc (.cells #[.int .i64 x.fl, .int .i64 x.nm, .int .i64 x.ds, .int .i64 x.ms, .int .i64 x.ml, .string x.code, .slice A2 x.hs.length c2] 141))
   have HK3 := Lib.hid (HK2.out.alloc (by omega) (.cells #[.int .i64 x.fl, .int .i64 x.nm, .int .i64 x.ds, .int .i64 x.ms, .int .i64 x.ml, .string x.code, .slice A2 x.hs.length c2] 141))
   have HCC := Lib.hid (appendHead_any x A2 c2 _ (l ++ beN 1 xs.length ++ (xs.take k).flatMap headN) base (wr.alloc (.cells #[.int .i64 x.fl, .int .i64 x.nm, .int .i64 x.ds, .int .i64 x.ms, .int .i64 x.ml, .string x.code, .slice A2 x.hs.length c2] 141)) HO3.out (Nat.le_trans hll (by omega)) (by simp; omega))
   clear hx hll
   go_wp2_with fail
   refine HCC.out.mono ?_
   rintro e w3 ⟨v3, rfl, hown, hk⟩
   have HO4 := Lib.hid hown
   have HK4 := Lib.hid (HK3.out.trans hk)
   clear hown hk
   go_wp2
   go_roundg (gk - 1)
   case measure => exact hgg
   case rel => exact ⟨k + 1, by go_num, by omega, by rw [HNX.out, ← List.append_assoc]; exact HO4.out, HK4.out⟩
  ·have HF := Lib.hid (show OwnB wr base _ (l ++ listN 1 headN xs) by
    have := HO2.out
    rw [List.take_of_length_le (by omega)] at this
    unfold listN
    rw [← List.append_assoc]
    exact this)
   go_wp2
   go_ret
   exact ⟨_, rfl, HF.out, HK2.out⟩
set_option maxRecDepth 1000000 in
set_option maxHeartbeats 6400000 in
theorem listConst_any {B : Nat} (xs : List Cn) (ht : Texts xs) (A : Option Addr) (cap : Nat) (v : Value) (l : List UInt8) (base : Nat) (w : World) (hx : CRow B w (.slice A xs.length cap) xs) (hB : B ≤ base) (hn : xs.length ≤ 3000) (hown : OwnB w base v l) (hl : l.length ≤ 400000000) (hb : base ≤ w.heap.size) :
  Calls Tryz.prog 158 #[v, .int .i64 2, .slice A xs.length cap, .func (.func 159) #[] #[]] w fun e w' => ∃ v', e = .returned v' ∧ OwnB w' base v' (l ++ listN 2 constN xs) ∧ Kept base w w' := by
 have HC := Lib.hid (appendNumber_2 (xs.length : Int) v l base w hown (by omega) hb)
 have HX := Lib.hid hx
 have HLL := Lib.hid (take_le constN 65545 3000 xs (fun c _ => constN_le c) hn)
 clear hx hown
 go_enter Tryz.func158, Tryz.ntmps158
 go_wp2_with fail
 refine HC.out.mono ?_
 rintro e w1 ⟨v1, rfl, hown, hk⟩
 have HO1 := Lib.hid hown
 have HK1 := Lib.hid hk
 have hs1 := hk.size
 clear hown hk
 go_wp2
 go_loopg [0, 18] xs.length (fun g bv iv wx => ∃ k : Nat, iv = .int .i64 k ∧ k + g = xs.length ∧ OwnB wx base bv (l ++ beN 2 xs.length ++ (xs.take k).flatMap constN) ∧ Kept base w wx)
 case atStart => exact ⟨0, rfl, by omega, by simpa using HO1.out, HK1.out⟩
 case round =>
  obtain ⟨k, rfl, hkg, hown, hk⟩ := hrel
  have HO2 := Lib.hid hown
  have HK2 := Lib.hid hk
  have hs2 := hk.size
  clear hown hk
  by_cases hlt : k < xs.length
  ·have hgg : gk - 1 < gk := by omega
   obtain ⟨x, hx⟩ : ∃ x, xs[k]? = some x := ⟨_, List.getElem?_eq_getElem hlt⟩
   obtain ⟨b, o, rfl, hbb, x0, x1, x2, x3, x4, x5⟩ := (show CRow B wr (.slice A xs.length cap) xs from Row.keep HX.out (fun p hp => HK2.out.below.cell (p := p) (by omega))).at_ hx
   have HNX := Lib.hid (flat_next constN hx)
   have hll : (l ++ beN 2 xs.length ++ (xs.take k).flatMap constN).length ≤ 700000000 := by
    have := HLL.out k
    rw [List.length_append, List.length_append, beN_length]
    omega
   have HO3 := Lib.hid (HO2.out.alloc (.cells #[.int .i64 x.tag, .string x.text, .int .i64 x.n, .int .i64 x.a, .int .i64 x.b, .int .i64 x.c] 138))
   have HK3 := Lib.hid (HK2.out.alloc (by omega) (.cells #[.int .i64 x.tag, .string x.text, .int .i64 x.n, .int .i64 x.a, .int .i64 x.b, .int .i64 x.c] 138))
   have HCC := Lib.hid (appendConst_any x (ht x (List.mem_of_getElem? hx)) _ (l ++ beN 2 xs.length ++ (xs.take k).flatMap constN) base (wr.alloc (.cells #[.int .i64 x.tag, .string x.text, .int .i64 x.n, .int .i64 x.a, .int .i64 x.b, .int .i64 x.c] 138)) HO3.out (Nat.le_trans hll (by omega)) (by simp; omega))
   clear hx hll
   go_wp2_with fail
   refine HCC.out.mono ?_
   rintro e w3 ⟨v3, rfl, hown, hk⟩
   have HO4 := Lib.hid hown
   have HK4 := Lib.hid (HK3.out.trans hk)
   clear hown hk
   go_wp2
   go_roundg (gk - 1)
   case measure => exact hgg
   case rel => exact ⟨k + 1, by go_num, by omega, by rw [HNX.out, ← List.append_assoc]; exact HO4.out, HK4.out⟩
  ·have HF := Lib.hid (show OwnB wr base _ (l ++ listN 2 constN xs) by
    have := HO2.out
    rw [List.take_of_length_le (by omega)] at this
    unfold listN
    rw [← List.append_assoc]
    exact this)
   go_wp2
   go_ret
   exact ⟨_, rfl, HF.out, HK2.out⟩
/-- The error of the member at place k: of its parts, or that one ahead is the same; of all members. -/
def memE (parts : List (Mb → Int)) (same : Mb → Mb → Bool) (ms : List Mb) (k : Nat) : Int :=
 match ms[k]? with
 | some m => if firstErr (fun g => g m) parts = 0 then (if (ms.take k).any (fun d => same d m) = true then 15 else 0) else firstErr (fun g => g m) parts
 | none => 0
def memsE (parts : List (Mb → Int)) (same : Mb → Mb → Bool) (ms : List Mb) : Int := if 200 < ms.length then 3 else firstErr (memE parts same ms) (List.range ms.length)
end Go.Proofs.YtmaknddlgppinaaGreatDoor
