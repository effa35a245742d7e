/-
  CUT and joined from the texts of this seat: A3 E9 E10
-/
import Derived.Test.YtmaknddlgppinaaGreatDoorX15
import Derived.Test.YtmaknddlgppinaaGreatDoorX16
set_option linter.unusedVariables false
set_option linter.unusedSimpArgs false
/-! A3 -/
namespace Go.Proofs.YtmaknddlgppinaaGreatDoor
open Go.RowKit

theorem encA_le (l : List UInt8) : (encA l).length ≤ 65535 := by
  unfold encA
  split
  · rename_i h; exact h.2
  · simp
/-- The bytes of a constant. -/
def restN (c : Cn) : List UInt8 :=
  if c.tag = 1 then textN (mkB (encA (L c.text))) else if c.tag = 2 then beN 8 c.n else if c.tag = 5 ∨ c.tag = 6 then linksN [c.a, c.b, c.c] else linksN [c.a]
def constN (c : Cn) : List UInt8 := beN 1 c.tag ++ restN c
set_option maxRecDepth 1000000 in
set_option maxHeartbeats 6400000 in
theorem appendConst_any (c : Cn) (hc : c.text.size ≤ 1000000000000000) (v : Value) (l : List UInt8) (base : Nat) (w : World) (hown : OwnB w base v l) (hl : l.length ≤ 700000000) (hb : base ≤ w.heap.size) :
    Calls Tryz.prog 159 #[v, .agg #[.int .i64 c.tag, .string c.text, .int .i64 c.n, .int .i64 c.a, .int .i64 c.b, .int .i64 c.c]] w fun e w' => ∃ v', e = .returned v' ∧ OwnB w' base v' (l ++ constN c) ∧ Kept base w w' := by
  obtain ⟨tag, text, n, a, b, d⟩ := c
  simp only at hc ⊢
  have HR0 := Lib.hid (show constN ⟨tag, text, n, a, b, d⟩ = beN 1 tag ++ restN ⟨tag, text, n, a, b, d⟩ from rfl)
  have HRR := Lib.hid (show restN ⟨tag, text, n, a, b, d⟩ = if tag = 1 then textN (mkB (encA (L text))) else if tag = 2 then beN 8 n else if tag = 5 ∨ tag = 6 then linksN [a, b, d] else linksN [a] from rfl)
  have htg : tag = 1 ∨ tag = 2 ∨ tag = 5 ∨ tag = 6 ∨ (tag ≠ 1 ∧ tag ≠ 2 ∧ tag ≠ 5 ∧ tag ≠ 6) := by omega
  generalize constN ⟨tag, text, n, a, b, d⟩ = R at *
  rcases htg with rfl | rfl | rfl | rfl | ⟨h1, h2, h5, h6⟩
  · have HR := Lib.hid (show R = beN 1 1 ++ textN (mkB (encA (L text))) by rw [HR0.out, HRR.out, if_pos rfl])
    have HE := fun W => Lib.hid (Encode_any text W (by omega))
    have hA := encA_le (L text)
    have HTX := Lib.hid (fun v W => appendText_any (mkB (encA (L text))) (by rw [size_L]; show (encA (L text)).length ≤ 100000; omega) v (l ++ beN 1 1) base W)
    obtain ⟨A, hA⟩ : ∃ A, mkB (encA (L text)) = A := ⟨_, rfl⟩
    rw [show strV (encA (L text)) = .string (mkB (encA (L text))) from rfl] at HE
    rw [hA] at HE HTX HR
    clear hA
    have HO := Lib.hid (hown.alloc (.cells #[.int .i64 1, .string text, .int .i64 n, .int .i64 a, .int .i64 b, .int .i64 d] 138))
    have HK := Lib.hid ((Kept.refl base w).alloc hb (.cells #[.int .i64 1, .string text, .int .i64 n, .int .i64 a, .int .i64 b, .int .i64 d] 138))
    have CB := Lib.hid (heap_new w (.cells #[.int .i64 1, .string text, .int .i64 n, .int .i64 a, .int .i64 b, .int .i64 d] 138))
    have HN := Lib.hid (fun v W h h1 h2 => appendNumber_1 1 v l base W h h1 h2)
    clear hown
    go_enter Tryz.func159, Tryz.ntmps159
    go_wp2_with fail
    refine (HN.out _ _ HO.out (by omega) (by simp; omega)).mono ?_
    rintro e w1 ⟨v1, rfl, hown1, hk1⟩
    have HO1 := Lib.hid hown1
    have HK1 := Lib.hid (HK.out.trans hk1)
    have CB1 := Lib.hid (hk1.other _ _ _ _ (by decide) CB.out)
    have hs1 := HK1.out.size
    have lt1 := lt_of_block CB1.out
    have m0 : w1.cell? ⟨w.heap.size, 0, none⟩ = some (.int .i64 1) := cells_of CB1.out 0
    have m1 : w1.cell? ⟨w.heap.size, 1, none⟩ = some (.string text) := cells_of CB1.out 1
    have m2 : w1.cell? ⟨w.heap.size, 2, none⟩ = some (.int .i64 n) := cells_of CB1.out 2
    have m3 : w1.cell? ⟨w.heap.size, 3, none⟩ = some (.int .i64 a) := cells_of CB1.out 3
    have m4 : w1.cell? ⟨w.heap.size, 4, none⟩ = some (.int .i64 b) := cells_of CB1.out 4
    have m5 : w1.cell? ⟨w.heap.size, 5, none⟩ = some (.int .i64 d) := cells_of CB1.out 5
    clear hown1 hk1
    go_wp2_with fail
    refine (HE _).out.mono ?_
    rintro e w2 ⟨rfl, hb2⟩
    have HO2 := Lib.hid (HO1.out.below hb2)
    have HK2 := Lib.hid (HK1.out.link (by omega) hb2)
    have hs2 := HK2.out.size
    clear hb2 m0 m1 m2 m3 m4 m5
    go_wp2_with fail
    refine (HTX.out _ _ HO2.out (by rw [List.length_append, beN_length]; omega) (by omega)).mono ?_
    rintro e w3 ⟨v3, rfl, hown3, hk3⟩
    have HO3 := Lib.hid hown3
    have HK3 := Lib.hid (HK2.out.trans hk3)
    clear hown3 hk3
    go_wp2
    go_ret
    exact ⟨_, rfl, by rw [HR.out, ← List.append_assoc]; exact HO3.out, HK3.out⟩
  · have HR := Lib.hid (show R = beN 1 2 ++ beN 8 n by rw [HR0.out, HRR.out]; rfl)
    have HO := Lib.hid (hown.alloc (.cells #[.int .i64 2, .string text, .int .i64 n, .int .i64 a, .int .i64 b, .int .i64 d] 138))
    have HK := Lib.hid ((Kept.refl base w).alloc hb (.cells #[.int .i64 2, .string text, .int .i64 n, .int .i64 a, .int .i64 b, .int .i64 d] 138))
    have CB := Lib.hid (heap_new w (.cells #[.int .i64 2, .string text, .int .i64 n, .int .i64 a, .int .i64 b, .int .i64 d] 138))
    have HN := Lib.hid (fun v W h h1 h2 => appendNumber_1 2 v l base W h h1 h2)
    clear hown
    go_enter Tryz.func159, Tryz.ntmps159
    go_wp2_with fail
    refine (HN.out _ _ HO.out (by omega) (by simp; omega)).mono ?_
    rintro e w1 ⟨v1, rfl, hown1, hk1⟩
    have HO1 := Lib.hid hown1
    have HK1 := Lib.hid (HK.out.trans hk1)
    have CB1 := Lib.hid (hk1.other _ _ _ _ (by decide) CB.out)
    have hs1 := HK1.out.size
    have lt1 := lt_of_block CB1.out
    have m0 : w1.cell? ⟨w.heap.size, 0, none⟩ = some (.int .i64 2) := cells_of CB1.out 0
    have m1 : w1.cell? ⟨w.heap.size, 1, none⟩ = some (.string text) := cells_of CB1.out 1
    have m2 : w1.cell? ⟨w.heap.size, 2, none⟩ = some (.int .i64 n) := cells_of CB1.out 2
    have m3 : w1.cell? ⟨w.heap.size, 3, none⟩ = some (.int .i64 a) := cells_of CB1.out 3
    have m4 : w1.cell? ⟨w.heap.size, 4, none⟩ = some (.int .i64 b) := cells_of CB1.out 4
    have m5 : w1.cell? ⟨w.heap.size, 5, none⟩ = some (.int .i64 d) := cells_of CB1.out 5
    clear hown1 hk1
    have HC := Lib.hid (fun v W => appendNumber_8 n v (l ++ beN 1 2) base W)
    go_wp2_with fail
    refine (HC.out _ _ HO1.out (by rw [List.length_append, beN_length]; omega) (by omega)).mono ?_
    rintro e w2 ⟨v2, rfl, hown2, hk2⟩
    have HO2 := Lib.hid hown2
    have HK2 := Lib.hid (HK1.out.trans hk2)
    clear hown2 hk2 m0 m1 m2 m3 m4 m5
    go_wp2
    go_ret
    exact ⟨_, rfl, by rw [HR.out, ← List.append_assoc]; exact HO2.out, HK2.out⟩
  · have HR := Lib.hid (show R = beN 1 5 ++ linksN [a, b, d] by rw [HR0.out, HRR.out]; rfl)
    have HO := Lib.hid (hown.alloc (.cells #[.int .i64 5, .string text, .int .i64 n, .int .i64 a, .int .i64 b, .int .i64 d] 138))
    have HK := Lib.hid ((Kept.refl base w).alloc hb (.cells #[.int .i64 5, .string text, .int .i64 n, .int .i64 a, .int .i64 b, .int .i64 d] 138))
    have CB := Lib.hid (heap_new w (.cells #[.int .i64 5, .string text, .int .i64 n, .int .i64 a, .int .i64 b, .int .i64 d] 138))
    have HN := Lib.hid (fun v W h h1 h2 => appendNumber_1 5 v l base W h h1 h2)
    clear hown
    go_enter Tryz.func159, Tryz.ntmps159
    go_wp2_with fail
    refine (HN.out _ _ HO.out (by omega) (by simp; omega)).mono ?_
    rintro e w1 ⟨v1, rfl, hown1, hk1⟩
    have HO1 := Lib.hid hown1
    have HK1 := Lib.hid (HK.out.trans hk1)
    have CB1 := Lib.hid (hk1.other _ _ _ _ (by decide) CB.out)
    have hs1 := HK1.out.size
    have lt1 := lt_of_block CB1.out
    have m0 : w1.cell? ⟨w.heap.size, 0, none⟩ = some (.int .i64 5) := cells_of CB1.out 0
    have m1 : w1.cell? ⟨w.heap.size, 1, none⟩ = some (.string text) := cells_of CB1.out 1
    have m2 : w1.cell? ⟨w.heap.size, 2, none⟩ = some (.int .i64 n) := cells_of CB1.out 2
    have m3 : w1.cell? ⟨w.heap.size, 3, none⟩ = some (.int .i64 a) := cells_of CB1.out 3
    have m4 : w1.cell? ⟨w.heap.size, 4, none⟩ = some (.int .i64 b) := cells_of CB1.out 4
    have m5 : w1.cell? ⟨w.heap.size, 5, none⟩ = some (.int .i64 d) := cells_of CB1.out 5
    clear hown1 hk1
    have HC := Lib.hid (fun v W I => appendLinks_any [a, b, d] (by simp) I v (l ++ beN 1 5) base W)
    go_wp2_with fail
    refine (HC.out _ (w1.alloc (.cells #[.int .i64 a, .int .i64 b, .int .i64 d] 3)) w1.heap.size (heap_new _ _) (HO1.out.alloc _) (by rw [List.length_append, beN_length]; omega) (by simp; omega)).mono ?_
    rintro e w2 ⟨v2, rfl, hown2, hk2⟩
    have HO2 := Lib.hid hown2
    have HK2 := Lib.hid ((HK1.out.alloc (by omega) (.cells #[.int .i64 a, .int .i64 b, .int .i64 d] 3)).trans hk2)
    clear hown2 hk2 m0 m1 m2 m3 m4 m5
    go_wp2
    go_ret
    exact ⟨_, rfl, by rw [HR.out, ← List.append_assoc]; exact HO2.out, HK2.out⟩
  · have HR := Lib.hid (show R = beN 1 6 ++ linksN [a, b, d] by rw [HR0.out, HRR.out]; rfl)
    have HO := Lib.hid (hown.alloc (.cells #[.int .i64 6, .string text, .int .i64 n, .int .i64 a, .int .i64 b, .int .i64 d] 138))
    have HK := Lib.hid ((Kept.refl base w).alloc hb (.cells #[.int .i64 6, .string text, .int .i64 n, .int .i64 a, .int .i64 b, .int .i64 d] 138))
    have CB := Lib.hid (heap_new w (.cells #[.int .i64 6, .string text, .int .i64 n, .int .i64 a, .int .i64 b, .int .i64 d] 138))
    have HN := Lib.hid (fun v W h h1 h2 => appendNumber_1 6 v l base W h h1 h2)
    clear hown
    go_enter Tryz.func159, Tryz.ntmps159
    go_wp2_with fail
    refine (HN.out _ _ HO.out (by omega) (by simp; omega)).mono ?_
    rintro e w1 ⟨v1, rfl, hown1, hk1⟩
    have HO1 := Lib.hid hown1
    have HK1 := Lib.hid (HK.out.trans hk1)
    have CB1 := Lib.hid (hk1.other _ _ _ _ (by decide) CB.out)
    have hs1 := HK1.out.size
    have lt1 := lt_of_block CB1.out
    have m0 : w1.cell? ⟨w.heap.size, 0, none⟩ = some (.int .i64 6) := cells_of CB1.out 0
    have m1 : w1.cell? ⟨w.heap.size, 1, none⟩ = some (.string text) := cells_of CB1.out 1
    have m2 : w1.cell? ⟨w.heap.size, 2, none⟩ = some (.int .i64 n) := cells_of CB1.out 2
    have m3 : w1.cell? ⟨w.heap.size, 3, none⟩ = some (.int .i64 a) := cells_of CB1.out 3
    have m4 : w1.cell? ⟨w.heap.size, 4, none⟩ = some (.int .i64 b) := cells_of CB1.out 4
    have m5 : w1.cell? ⟨w.heap.size, 5, none⟩ = some (.int .i64 d) := cells_of CB1.out 5
    clear hown1 hk1
    have HC := Lib.hid (fun v W I => appendLinks_any [a, b, d] (by simp) I v (l ++ beN 1 6) base W)
    go_wp2_with fail
    refine (HC.out _ (w1.alloc (.cells #[.int .i64 a, .int .i64 b, .int .i64 d] 3)) w1.heap.size (heap_new _ _) (HO1.out.alloc _) (by rw [List.length_append, beN_length]; omega) (by simp; omega)).mono ?_
    rintro e w2 ⟨v2, rfl, hown2, hk2⟩
    have HO2 := Lib.hid hown2
    have HK2 := Lib.hid ((HK1.out.alloc (by omega) (.cells #[.int .i64 a, .int .i64 b, .int .i64 d] 3)).trans hk2)
    clear hown2 hk2 m0 m1 m2 m3 m4 m5
    go_wp2
    go_ret
    exact ⟨_, rfl, by rw [HR.out, ← List.append_assoc]; exact HO2.out, HK2.out⟩
  · have HR := Lib.hid (show R = beN 1 tag ++ linksN [a] by rw [HR0.out, HRR.out, if_neg h1, if_neg h2, if_neg (by omega)])
    have g1 : (tag == 1) = false := by simpa using h1
    have g2 : (tag == 2) = false := by simpa using h2
    have g5 : (tag == 5) = false := by simpa using h5
    have g6 : (tag == 6) = false := by simpa using h6
    clear h1 h2 h5 h6
    have HO := Lib.hid (hown.alloc (.cells #[.int .i64 tag, .string text, .int .i64 n, .int .i64 a, .int .i64 b, .int .i64 d] 138))
    have HK := Lib.hid ((Kept.refl base w).alloc hb (.cells #[.int .i64 tag, .string text, .int .i64 n, .int .i64 a, .int .i64 b, .int .i64 d] 138))
    have CB := Lib.hid (heap_new w (.cells #[.int .i64 tag, .string text, .int .i64 n, .int .i64 a, .int .i64 b, .int .i64 d] 138))
    have HN := Lib.hid (fun v W h h1 h2 => appendNumber_1 tag v l base W h h1 h2)
    clear hown
    go_enter Tryz.func159, Tryz.ntmps159
    go_wp2_with fail
    refine (HN.out _ _ HO.out (by omega) (by simp; omega)).mono ?_
    rintro e w1 ⟨v1, rfl, hown1, hk1⟩
    have HO1 := Lib.hid hown1
    have HK1 := Lib.hid (HK.out.trans hk1)
    have CB1 := Lib.hid (hk1.other _ _ _ _ (by decide) CB.out)
    have hs1 := HK1.out.size
    have lt1 := lt_of_block CB1.out
    have m0 : w1.cell? ⟨w.heap.size, 0, none⟩ = some (.int .i64 tag) := cells_of CB1.out 0
    have m1 : w1.cell? ⟨w.heap.size, 1, none⟩ = some (.string text) := cells_of CB1.out 1
    have m2 : w1.cell? ⟨w.heap.size, 2, none⟩ = some (.int .i64 n) := cells_of CB1.out 2
    have m3 : w1.cell? ⟨w.heap.size, 3, none⟩ = some (.int .i64 a) := cells_of CB1.out 3
    have m4 : w1.cell? ⟨w.heap.size, 4, none⟩ = some (.int .i64 b) := cells_of CB1.out 4
    have m5 : w1.cell? ⟨w.heap.size, 5, none⟩ = some (.int .i64 d) := cells_of CB1.out 5
    clear hown1 hk1
    have HC := Lib.hid (fun v W I => appendLinks_any [a] (by simp) I v (l ++ beN 1 tag) base W)
    go_wp2_with fail
    refine (HC.out _ (w1.alloc (.cells #[.int .i64 a] 3)) w1.heap.size (heap_new _ _) (HO1.out.alloc _) (by rw [List.length_append, beN_length]; omega) (by simp; omega)).mono ?_
    rintro e w2 ⟨v2, rfl, hown2, hk2⟩
    have HO2 := Lib.hid hown2
    have HK2 := Lib.hid ((HK1.out.alloc (by omega) (.cells #[.int .i64 a] 3)).trans hk2)
    clear hown2 hk2 m0 m1 m2 m3 m4 m5
    go_wp2
    go_ret
    exact ⟨_, rfl, by rw [HR.out, ← List.append_assoc]; exact HO2.out, HK2.out⟩
/-- A row with its length ahead. -/
def listN {α : Type} (k : Nat) (f : α → List UInt8) (xs : List α) : List UInt8 := beN k xs.length ++ xs.flatMap f
theorem flat_le {α : Type} (f : α → List UInt8) (C : Nat) : ∀ (xs : List α), (∀ x ∈ xs, (f x).length ≤ C) → (xs.flatMap f).length ≤ C * xs.length
  | [], _ => by simp
  | x :: r, h => by
    have h1 := h x (by simp)
    have h2 := flat_le f C r (fun y hy => h y (by simp [hy]))
    rw [List.flatMap_cons, List.length_append, List.length_cons, Nat.mul_add]
    omega
theorem flat_next {α : Type} (f : α → List UInt8) {xs : List α} {k : Nat} {x : α} (hx : xs[k]? = some x) : (xs.take (k + 1)).flatMap f = (xs.take k).flatMap f ++ f x := by
  obtain ⟨hk, rfl⟩ := List.getElem?_eq_some_iff.1 hx
  rw [List.take_succ_eq_append_getElem hk, List.flatMap_append]
  simp
theorem take_le {α : Type} (f : α → List UInt8) (C N : Nat) (xs : List α) (h : ∀ x ∈ xs, (f x).length ≤ C) (hN : xs.length ≤ N) (k : Nat) : ((xs.take k).flatMap f).length ≤ C * N := by
  refine Nat.le_trans (flat_le f C (xs.take k) (fun x hx => h x (List.mem_of_mem_take hx))) (Nat.mul_le_mul_left C ?_)
  rw [List.length_take]
  omega
theorem constN_le (c : Cn) : (constN c).length ≤ 65545 := by
  unfold constN restN
  have := encA_le (L c.text)
  rw [List.length_append, beN_length]
  split
  · unfold textN
    rw [List.length_append, beN_length]
    show 1 + (2 + (encA (L c.text)).length) ≤ _
    omega
  · split
    · rw [beN_length]; omega
    · split <;> (rw [linksN_length]; simp)
theorem headN_len (m : Mb) : (headN m).length = 5 := by unfold headN; rw [List.length_append, beN_length, linksN_length]; rfl
theorem hdlN_len (h : Hd) : (hdlN h).length = 8 := by unfold hdlN; rw [linksN_length]; rfl
set_option maxRecDepth 1000000 in
set_option maxHeartbeats 6400000 in
theorem listHandler_any {B : Nat} (xs : List Hd)  (A : Option Addr) (cap : Nat) (v : Value) (l : List UInt8) (base : Nat) (w : World) (hx : HRow B w (.slice A xs.length cap) xs) (hB : B ≤ base) (hn : xs.length ≤ 1000) (hown : OwnB w base v l) (hl : l.length ≤ 400000000) (hb : base ≤ w.heap.size) :
    Calls Tryz.prog 187 #[v, .int .i64 1, .slice A xs.length cap, .func (.func 188) #[] #[]] w fun e w' => ∃ v', e = .returned v' ∧ OwnB w' base v' (l ++ listN 1 hdlN xs) ∧ Kept base w w' := by
  have HC := Lib.hid (appendNumber_1 (xs.length : Int) v l base w hown (by omega) hb)
  have HX := Lib.hid hx
  have HLL := Lib.hid (take_le hdlN 8 1000 xs (fun h _ => by rw [hdlN_len]; omega) hn)
  clear hx hown
  go_enter Tryz.func187, Tryz.ntmps187
  go_wp2_with fail
  refine HC.out.mono ?_
  rintro e w1 ⟨v1, rfl, hown, hk⟩
  have HO1 := Lib.hid hown
  have HK1 := Lib.hid hk
  have hs1 := hk.size
  clear hown hk
  go_wp2
  go_loopg [0, 18] xs.length (fun g bv iv wx => ∃ k : Nat, iv = .int .i64 k ∧ k + g = xs.length ∧ OwnB wx base bv (l ++ beN 1 xs.length ++ (xs.take k).flatMap hdlN) ∧ Kept base w wx)
  case atStart => exact ⟨0, rfl, by omega, by simpa using HO1.out, HK1.out⟩
  case round =>
    obtain ⟨k, rfl, hkg, hown, hk⟩ := hrel
    have HO2 := Lib.hid hown
    have HK2 := Lib.hid hk
    have hs2 := hk.size
    clear hown hk
    by_cases hlt : k < xs.length
    · have hgg : gk - 1 < gk := by omega
      obtain ⟨x, hx⟩ : ∃ x, xs[k]? = some x := ⟨_, List.getElem?_eq_getElem hlt⟩
      obtain ⟨b, o, rfl, hbb, x0, x1, x2, x3⟩ := (show HRow B wr (.slice A xs.length cap) xs from Row.keep HX.out (fun p hp => HK2.out.below.cell (p := p) (by omega))).at_ hx
      have HNX := Lib.hid (flat_next hdlN hx)
      have hll : (l ++ beN 1 xs.length ++ (xs.take k).flatMap hdlN).length ≤ 700000000 := by
        have := HLL.out k
        rw [List.length_append, List.length_append, beN_length]
        omega
      have HO3 := Lib.hid (HO2.out.alloc (.cells #[.int .i64 x.fr, .int .i64 x.to, .int .i64 x.at_, .int .i64 x.cl] 170))
      have HK3 := Lib.hid (HK2.out.alloc (by omega) (.cells #[.int .i64 x.fr, .int .i64 x.to, .int .i64 x.at_, .int .i64 x.cl] 170))
      have HCC := Lib.hid (appendHandler_any x _ (l ++ beN 1 xs.length ++ (xs.take k).flatMap hdlN) base (wr.alloc (.cells #[.int .i64 x.fr, .int .i64 x.to, .int .i64 x.at_, .int .i64 x.cl] 170)) HO3.out (Nat.le_trans hll (by omega)) (by simp; omega))
      clear hx hll
      go_wp2_with fail
      refine HCC.out.mono ?_
      rintro e w3 ⟨v3, rfl, hown, hk⟩
      have HO4 := Lib.hid hown
      have HK4 := Lib.hid (HK3.out.trans hk)
      clear hown hk
      go_wp2
      go_roundg (gk - 1)
      case measure => exact hgg
      case rel => exact ⟨k + 1, by go_num, by omega, by rw [HNX.out, ← List.append_assoc]; exact HO4.out, HK4.out⟩
    · have HF := Lib.hid (show OwnB wr base _ (l ++ listN 1 hdlN xs) by
        have := HO2.out
        rw [List.take_of_length_le (by omega)] at this
        unfold listN
        rw [← List.append_assoc]
        exact this)
      go_wp2
      go_ret
      exact ⟨_, rfl, HF.out, HK2.out⟩
set_option maxRecDepth 1000000 in
set_option maxHeartbeats 6400000 in
theorem listInt_any {B : Nat} (xs : List Int)  (A : Option Addr) (cap : Nat) (v : Value) (l : List UInt8) (base : Nat) (w : World) (hx : IRow B w (.slice A xs.length cap) xs) (hB : B ≤ base) (hn : xs.length ≤ 1000) (hown : OwnB w base v l) (hl : l.length ≤ 400000000) (hb : base ≤ w.heap.size) :
    Calls Tryz.prog 162 #[v, .int .i64 1, .slice A xs.length cap, .func (.func 163) #[] #[]] w fun e w' => ∃ v', e = .returned v' ∧ OwnB w' base v' (l ++ listN 1 (fun i => linksN [i]) xs) ∧ Kept base w w' := by
  have HC := Lib.hid (appendNumber_1 (xs.length : Int) v l base w hown (by omega) hb)
  have HX := Lib.hid hx
  have HLL := Lib.hid (take_le (fun i => linksN [i]) 2 1000 xs (fun i _ => by rw [linksN_length]; simp) hn)
  clear hx hown
  go_enter Tryz.func162, Tryz.ntmps162
  go_wp2_with fail
  refine HC.out.mono ?_
  rintro e w1 ⟨v1, rfl, hown, hk⟩
  have HO1 := Lib.hid hown
  have HK1 := Lib.hid hk
  have hs1 := hk.size
  clear hown hk
  go_wp2
  go_loopg [0, 18] xs.length (fun g bv iv wx => ∃ k : Nat, iv = .int .i64 k ∧ k + g = xs.length ∧ OwnB wx base bv (l ++ beN 1 xs.length ++ (xs.take k).flatMap (fun i => linksN [i])) ∧ Kept base w wx)
  case atStart => exact ⟨0, rfl, by omega, by simpa using HO1.out, HK1.out⟩
  case round =>
    obtain ⟨k, rfl, hkg, hown, hk⟩ := hrel
    have HO2 := Lib.hid hown
    have HK2 := Lib.hid hk
    have hs2 := hk.size
    clear hown hk
    by_cases hlt : k < xs.length
    · have hgg : gk - 1 < gk := by omega
      obtain ⟨x, hx⟩ : ∃ x, xs[k]? = some x := ⟨_, List.getElem?_eq_getElem hlt⟩
      obtain ⟨b, o, rfl, hbb, x0⟩ := (show IRow B wr (.slice A xs.length cap) xs from Row.keep HX.out (fun p hp => HK2.out.below.cell (p := p) (by omega))).at_ hx
      have HNX := Lib.hid (flat_next (fun i => linksN [i]) hx)
      have hll : (l ++ beN 1 xs.length ++ (xs.take k).flatMap (fun i => linksN [i])).length ≤ 700000000 := by
        have := HLL.out k
        rw [List.length_append, List.length_append, beN_length]
        omega
      have HCC := Lib.hid (appendLink_any x _ (l ++ beN 1 xs.length ++ (xs.take k).flatMap (fun i => linksN [i])) base wr HO2.out (Nat.le_trans hll (by omega)) (by omega))
      clear hx hll
      go_wp2_with fail
      refine HCC.out.mono ?_
      rintro e w3 ⟨v3, rfl, hown, hk⟩
      have HO4 := Lib.hid hown
      have HK4 := Lib.hid (HK2.out.trans hk)
      clear hown hk
      go_wp2
      go_roundg (gk - 1)
      case measure => exact hgg
      case rel => exact ⟨k + 1, by go_num, by omega, by rw [HNX.out, ← List.append_assoc]; exact HO4.out, HK4.out⟩
    · have HF := Lib.hid (show OwnB wr base _ (l ++ listN 1 (fun i => linksN [i]) xs) by
        have := HO2.out
        rw [List.take_of_length_le (by omega)] at this
        unfold listN
        rw [← List.append_assoc]
        exact this)
      go_wp2
      go_ret
      exact ⟨_, rfl, HF.out, HK2.out⟩
set_option maxRecDepth 1000000 in
set_option maxHeartbeats 6400000 in
theorem listField_any {B : Nat} (xs : List Mb)  (A : Option Addr) (cap : Nat) (v : Value) (l : List UInt8) (base : Nat) (w : World) (hx : MRow B w (.slice A xs.length cap) xs) (hB : B ≤ base) (hn : xs.length ≤ 1000) (hown : OwnB w base v l) (hl : l.length ≤ 400000000) (hb : base ≤ w.heap.size) :
    Calls Tryz.prog 164 #[v, .int .i64 1, .slice A xs.length cap, .func (.func 165) #[] #[]] w fun e w' => ∃ v', e = .returned v' ∧ OwnB w' base v' (l ++ listN 1 headN xs) ∧ Kept base w w' := by
  have HC := Lib.hid (appendNumber_1 (xs.length : Int) v l base w hown (by omega) hb)
  have HX := Lib.hid hx
  have HLL := Lib.hid (take_le headN 5 1000 xs (fun m _ => by rw [headN_len]; omega) hn)
  clear hx hown
  go_enter Tryz.func164, Tryz.ntmps164
  go_wp2_with fail
  refine HC.out.mono ?_
  rintro e w1 ⟨v1, rfl, hown, hk⟩
  have HO1 := Lib.hid hown
  have HK1 := Lib.hid hk
  have hs1 := hk.size
  clear hown hk
  go_wp2
  go_loopg [0, 18] xs.length (fun g bv iv wx => ∃ k : Nat, iv = .int .i64 k ∧ k + g = xs.length ∧ OwnB wx base bv (l ++ beN 1 xs.length ++ (xs.take k).flatMap headN) ∧ Kept base w wx)
  case atStart => exact ⟨0, rfl, by omega, by simpa using HO1.out, HK1.out⟩
  case round =>
    obtain ⟨k, rfl, hkg, hown, hk⟩ := hrel
    have HO2 := Lib.hid hown
    have HK2 := Lib.hid hk
    have hs2 := hk.size
    clear hown hk
    by_cases hlt : k < xs.length
    · have hgg : gk - 1 < gk := by omega
      obtain ⟨x, hx⟩ : ∃ x, xs[k]? = some x := ⟨_, List.getElem?_eq_getElem hlt⟩
      obtain ⟨b, o, A2, c2, rfl, hbb, hrow, x0, x1, x2, x3, x4, x5, x6⟩ := (show MRow B wr (.slice A xs.length cap) xs from MRow.keep HX.out (fun p hp => HK2.out.below.cell (p := p) (by omega))).at_ hx
      have HNX := Lib.hid (flat_next headN hx)
      have hll : (l ++ beN 1 xs.length ++ (xs.take k).flatMap headN).length ≤ 700000000 := by
        have := HLL.out k
        rw [List.length_append, List.length_append, beN_length]
        omega
      have HO3 := Lib.hid (HO2.out.alloc (.cells #[.int .i64 x.fl, .int .i64 x.nm, .int .i64 x.ds, .int .i64 x.ms, .int .i64 x.ml, .string x.code, .slice A2 x.hs.length c2] 141))
      have HK3 := Lib.hid (HK2.out.alloc (by omega) (.cells #[.int .i64 x.fl, .int .i64 x.nm, .int .i64 x.ds, .int .i64 x.ms, .int .i64 x.ml, .string x.code, .slice A2 x.hs.length c2] 141))
      have HCC := Lib.hid (appendHead_any x A2 c2 _ (l ++ beN 1 xs.length ++ (xs.take k).flatMap headN) base (wr.alloc (.cells #[.int .i64 x.fl, .int .i64 x.nm, .int .i64 x.ds, .int .i64 x.ms, .int .i64 x.ml, .string x.code, .slice A2 x.hs.length c2] 141)) HO3.out (Nat.le_trans hll (by omega)) (by simp; omega))
      clear hx hll
      go_wp2_with fail
      refine HCC.out.mono ?_
      rintro e w3 ⟨v3, rfl, hown, hk⟩
      have HO4 := Lib.hid hown
      have HK4 := Lib.hid (HK3.out.trans hk)
      clear hown hk
      go_wp2
      go_roundg (gk - 1)
      case measure => exact hgg
      case rel => exact ⟨k + 1, by go_num, by omega, by rw [HNX.out, ← List.append_assoc]; exact HO4.out, HK4.out⟩
    · have HF := Lib.hid (show OwnB wr base _ (l ++ listN 1 headN xs) by
        have := HO2.out
        rw [List.take_of_length_le (by omega)] at this
        unfold listN
        rw [← List.append_assoc]
        exact this)
      go_wp2
      go_ret
      exact ⟨_, rfl, HF.out, HK2.out⟩
set_option maxRecDepth 1000000 in
set_option maxHeartbeats 6400000 in
theorem listConst_any {B : Nat} (xs : List Cn) (ht : Texts xs) (A : Option Addr) (cap : Nat) (v : Value) (l : List UInt8) (base : Nat) (w : World) (hx : CRow B w (.slice A xs.length cap) xs) (hB : B ≤ base) (hn : xs.length ≤ 3000) (hown : OwnB w base v l) (hl : l.length ≤ 400000000) (hb : base ≤ w.heap.size) :
    Calls Tryz.prog 158 #[v, .int .i64 2, .slice A xs.length cap, .func (.func 159) #[] #[]] w fun e w' => ∃ v', e = .returned v' ∧ OwnB w' base v' (l ++ listN 2 constN xs) ∧ Kept base w w' := by
  have HC := Lib.hid (appendNumber_2 (xs.length : Int) v l base w hown (by omega) hb)
  have HX := Lib.hid hx
  have HLL := Lib.hid (take_le constN 65545 3000 xs (fun c _ => constN_le c) hn)
  clear hx hown
  go_enter Tryz.func158, Tryz.ntmps158
  go_wp2_with fail
  refine HC.out.mono ?_
  rintro e w1 ⟨v1, rfl, hown, hk⟩
  have HO1 := Lib.hid hown
  have HK1 := Lib.hid hk
  have hs1 := hk.size
  clear hown hk
  go_wp2
  go_loopg [0, 18] xs.length (fun g bv iv wx => ∃ k : Nat, iv = .int .i64 k ∧ k + g = xs.length ∧ OwnB wx base bv (l ++ beN 2 xs.length ++ (xs.take k).flatMap constN) ∧ Kept base w wx)
  case atStart => exact ⟨0, rfl, by omega, by simpa using HO1.out, HK1.out⟩
  case round =>
    obtain ⟨k, rfl, hkg, hown, hk⟩ := hrel
    have HO2 := Lib.hid hown
    have HK2 := Lib.hid hk
    have hs2 := hk.size
    clear hown hk
    by_cases hlt : k < xs.length
    · have hgg : gk - 1 < gk := by omega
      obtain ⟨x, hx⟩ : ∃ x, xs[k]? = some x := ⟨_, List.getElem?_eq_getElem hlt⟩
      obtain ⟨b, o, rfl, hbb, x0, x1, x2, x3, x4, x5⟩ := (show CRow B wr (.slice A xs.length cap) xs from Row.keep HX.out (fun p hp => HK2.out.below.cell (p := p) (by omega))).at_ hx
      have HNX := Lib.hid (flat_next constN hx)
      have hll : (l ++ beN 2 xs.length ++ (xs.take k).flatMap constN).length ≤ 700000000 := by
        have := HLL.out k
        rw [List.length_append, List.length_append, beN_length]
        omega
      have HO3 := Lib.hid (HO2.out.alloc (.cells #[.int .i64 x.tag, .string x.text, .int .i64 x.n, .int .i64 x.a, .int .i64 x.b, .int .i64 x.c] 138))
      have HK3 := Lib.hid (HK2.out.alloc (by omega) (.cells #[.int .i64 x.tag, .string x.text, .int .i64 x.n, .int .i64 x.a, .int .i64 x.b, .int .i64 x.c] 138))
      have HCC := Lib.hid (appendConst_any x (ht x (List.mem_of_getElem? hx)) _ (l ++ beN 2 xs.length ++ (xs.take k).flatMap constN) base (wr.alloc (.cells #[.int .i64 x.tag, .string x.text, .int .i64 x.n, .int .i64 x.a, .int .i64 x.b, .int .i64 x.c] 138)) HO3.out (Nat.le_trans hll (by omega)) (by simp; omega))
      clear hx hll
      go_wp2_with fail
      refine HCC.out.mono ?_
      rintro e w3 ⟨v3, rfl, hown, hk⟩
      have HO4 := Lib.hid hown
      have HK4 := Lib.hid (HK3.out.trans hk)
      clear hown hk
      go_wp2
      go_roundg (gk - 1)
      case measure => exact hgg
      case rel => exact ⟨k + 1, by go_num, by omega, by rw [HNX.out, ← List.append_assoc]; exact HO4.out, HK4.out⟩
    · have HF := Lib.hid (show OwnB wr base _ (l ++ listN 2 constN xs) by
        have := HO2.out
        rw [List.take_of_length_le (by omega)] at this
        unfold listN
        rw [← List.append_assoc]
        exact this)
      go_wp2
      go_ret
      exact ⟨_, rfl, HF.out, HK2.out⟩
end Go.Proofs.YtmaknddlgppinaaGreatDoor
/-! E9 -/
namespace Go.Proofs.YtmaknddlgppinaaGreatDoor
open Go.RowKit

/-- What the closure that compares members has at hand. -/
structure MEnv (B : Nat) (g : FuncId) (F S Lb I : Nat) (Ap : Option Addr) (cp : Nat) (Ai : Option Addr) (ci : Nat) (Af : Option Addr) (cf : Nat) (Am : Option Addr) (cm : Nat) (f : Fl) (A : Option Addr) (cap : Nat) (ms : List Mb) (k : Nat) (w : World) : Prop where
  fbox : FBox F Ap cp Ai ci Af cf Am cm f w
  sbox : w.heap[S]? = some (.cells #[.func (.func g) #[] #[]] 189 (0, 0))
  lbox : w.heap[Lb]? = some (.cells #[.slice A ms.length cap] 92 (0, 0))
  ibox : w.heap[I]? = some (.cells #[.int .i64 (k : Int)] 3 (0, 0))
  file : FileAt B w (.agg #[.slice Ap f.pool.length cp, .int .i64 f.fl, .int .i64 f.this, .int .i64 f.super, .slice Ai f.ifs.length ci, .slice Af f.fds.length cf, .slice Am f.mts.length cm]) f
  rows : MRow B w (.slice A ms.length cap) ms
  le : B ≤ w.heap.size
section
variable {B : Nat} {g : FuncId} {F S Lb I : Nat} {Ap Ai Af Am : Option Addr} {cp ci cf cm : Nat} {f : Fl} {A : Option Addr} {cap : Nat} {ms : List Mb} {k : Nat} {w w' : World}
theorem MEnv.below {n : Nat} (h : MEnv B g F S Lb I Ap cp Ai ci Af cf Am cm f A cap ms k w) (hb : Below n w w') (hn : w.heap.size ≤ n) : MEnv B g F S Lb I Ap cp Ai ci Af cf Am cm f A cap ms k w' :=
  ⟨h.fbox.below hb (Nat.lt_of_lt_of_le h.fbox.lt hn), Below.keep hb (Nat.lt_of_lt_of_le (lt_of_block h.sbox) hn) h.sbox, Below.keep hb (Nat.lt_of_lt_of_le (lt_of_block h.lbox) hn) h.lbox, Below.keep hb (Nat.lt_of_lt_of_le (lt_of_block h.ibox) hn) h.ibox,
    h.file.below hb (Nat.le_trans h.le hn), h.rows.keep fun p hp => hb.cell (p := p) (Nat.lt_of_lt_of_le hp (Nat.le_trans h.le hn)), Nat.le_trans h.le hb.size⟩
theorem MEnv.alloc (h : MEnv B g F S Lb I Ap cp Ai ci Af cf Am cm f A cap ms k w) (o : Obj) : MEnv B g F S Lb I Ap cp Ai ci Af cf Am cm f A cap ms k (w.alloc o) :=
  h.below ((Below.refl w.heap.size w).alloc (Nat.le_refl _) o) (Nat.le_refl _)
theorem MEnv.drew (h : MEnv B g F S Lb I Ap cp Ai ci Af cf Am cm f A cap ms k w) : MEnv B g F S Lb I Ap cp Ai ci Af cf Am cm f A cap ms k w.drew :=
  h.below (Below.refl w.heap.size w).drew (Nat.le_refl _)
end
set_option maxRecDepth 1000000 in
set_option maxHeartbeats 6400000 in
theorem closeN {B F S Lb I : Nat} {Ap Ai Af Am : Option Addr} {cp ci cf cm : Nat} {f : Fl} {A : Option Addr} {cap : Nat} {ms : List Mb} {k : Nat} (w : World) (h : MEnv B 151 F S Lb I Ap cp Ai ci Af cf Am cm f A cap ms k w) (y : Mb) (hy : ms[k]? = some y) (m : Mb) (Aa : Option Addr) (ca : Nat) :
    Calls Tryz.prog 179 #[.agg #[.int .i64 m.fl, .int .i64 m.nm, .int .i64 m.ds, .int .i64 m.ms, .int .i64 m.ml, .string m.code, .slice Aa m.hs.length ca], .pointer (some ⟨S, 0, none⟩), .pointer (some ⟨F, 0, none⟩), .pointer (some ⟨Lb, 0, none⟩), .pointer (some ⟨I, 0, none⟩)] w fun e w' => e = .returned (.bool (sameN f.pool m y)) ∧ Below w.heap.size w w' := by
  have BE := Lib.hid ((Below.refl w.heap.size w).alloc (Nat.le_refl _) (.cells #[.int .i64 m.fl, .int .i64 m.nm, .int .i64 m.ds, .int .i64 m.ms, .int .i64 m.ml, .string m.code, .slice Aa m.hs.length ca] 141))
  have H1 := h.alloc (.cells #[.int .i64 m.fl, .int .i64 m.nm, .int .i64 m.ds, .int .i64 m.ms, .int .i64 m.ml, .string m.code, .slice Aa m.hs.length ca] 141)
  have BM := MBox.new m Aa ca w
  have hmax : ms.length ≤ 9223372036854775807 := by
    obtain ⟨_, _, _, _, _, _, _, hm, _⟩ := h.rows
    unfold maxLen at hm
    exact hm
  have hk : k < ms.length := (List.getElem?_eq_some_iff.1 hy).1
  obtain ⟨b, o, A', c', rfl, hb, hrow, y0, y1, y2, y3, y4, y5, y6⟩ := H1.rows.at_ hy
  have HS := Lib.hid (fun V W hW hWB => sameName_any (B := B) f V W hW hWB m y Aa ca A' c')
  obtain ⟨c0, c1, c2, c3, c4, c5, c6⟩ := H1.fbox.cells
  obtain ⟨m0, m1, m2, m3, m4, m5, m6⟩ := BM.cells
  have s0 : (w.alloc (.cells #[.int .i64 m.fl, .int .i64 m.nm, .int .i64 m.ds, .int .i64 m.ms, .int .i64 m.ml, .string m.code, .slice Aa m.hs.length ca] 141)).cell? ⟨S, 0, none⟩ = some (.func (.func 151) #[] #[]) := cells_of H1.sbox 0
  have l0 : (w.alloc (.cells #[.int .i64 m.fl, .int .i64 m.nm, .int .i64 m.ds, .int .i64 m.ms, .int .i64 m.ml, .string m.code, .slice Aa m.hs.length ca] 141)).cell? ⟨Lb, 0, none⟩ = some (.slice (some ⟨b, o, none⟩) ms.length cap) := cells_of H1.lbox 0
  have i0 : (w.alloc (.cells #[.int .i64 m.fl, .int .i64 m.nm, .int .i64 m.ds, .int .i64 m.ms, .int .i64 m.ml, .string m.code, .slice Aa m.hs.length ca] 141)).cell? ⟨I, 0, none⟩ = some (.int .i64 (k : Int)) := cells_of H1.ibox 0
  have HFL := Lib.hid H1.file
  have hle := H1.le
  clear H1 BM h hrow hy
  go_enter Tryz.func179, Tryz.ntmps179
  go_wp2
  generalize w.alloc (.cells #[.int .i64 m.fl, .int .i64 m.nm, .int .i64 m.ds, .int .i64 m.ms, .int .i64 m.ml, .string m.code, .slice Aa m.hs.length ca] 141) = W at *
  refine wp_region_still_tail 7 (by kernel_rfl) (by kernel_rfl) ?_
  change wpStill _ _ W.drew _ _ _
  simp only [List.take_succ_cons, List.take_zero, List.drop_succ_cons, List.drop_zero]
  repeat still_step
  refine wpStill_nil ?_
  change wpList _ _ _ _ _ W.drew
  go_wp2_with fail
  refine (HS.out _ W.drew (HFL.out.drew) hle).mono ?_
  rintro e w1 ⟨rfl, hb⟩
  have BE1 := Lib.hid (Below.link BE.out.drew hb)
  clear hb
  go_wp2
  go_ret
  exact ⟨rfl, BE1.out⟩
set_option maxRecDepth 1000000 in
set_option maxHeartbeats 6400000 in
theorem closeM {B F S Lb I : Nat} {Ap Ai Af Am : Option Addr} {cp ci cf cm : Nat} {f : Fl} {A : Option Addr} {cap : Nat} {ms : List Mb} {k : Nat} (w : World) (h : MEnv B 154 F S Lb I Ap cp Ai ci Af cf Am cm f A cap ms k w) (y : Mb) (hy : ms[k]? = some y) (m : Mb) (Aa : Option Addr) (ca : Nat) :
    Calls Tryz.prog 179 #[.agg #[.int .i64 m.fl, .int .i64 m.nm, .int .i64 m.ds, .int .i64 m.ms, .int .i64 m.ml, .string m.code, .slice Aa m.hs.length ca], .pointer (some ⟨S, 0, none⟩), .pointer (some ⟨F, 0, none⟩), .pointer (some ⟨Lb, 0, none⟩), .pointer (some ⟨I, 0, none⟩)] w fun e w' => e = .returned (.bool (sameM f.pool m y)) ∧ Below w.heap.size w w' := by
  have BE := Lib.hid ((Below.refl w.heap.size w).alloc (Nat.le_refl _) (.cells #[.int .i64 m.fl, .int .i64 m.nm, .int .i64 m.ds, .int .i64 m.ms, .int .i64 m.ml, .string m.code, .slice Aa m.hs.length ca] 141))
  have H1 := h.alloc (.cells #[.int .i64 m.fl, .int .i64 m.nm, .int .i64 m.ds, .int .i64 m.ms, .int .i64 m.ml, .string m.code, .slice Aa m.hs.length ca] 141)
  have BM := MBox.new m Aa ca w
  have hmax : ms.length ≤ 9223372036854775807 := by
    obtain ⟨_, _, _, _, _, _, _, hm, _⟩ := h.rows
    unfold maxLen at hm
    exact hm
  have hk : k < ms.length := (List.getElem?_eq_some_iff.1 hy).1
  obtain ⟨b, o, A', c', rfl, hb, hrow, y0, y1, y2, y3, y4, y5, y6⟩ := H1.rows.at_ hy
  have HS := Lib.hid (fun V W hW hWB => sameMethod_any (B := B) f V W hW hWB m y Aa ca A' c')
  obtain ⟨c0, c1, c2, c3, c4, c5, c6⟩ := H1.fbox.cells
  obtain ⟨m0, m1, m2, m3, m4, m5, m6⟩ := BM.cells
  have s0 : (w.alloc (.cells #[.int .i64 m.fl, .int .i64 m.nm, .int .i64 m.ds, .int .i64 m.ms, .int .i64 m.ml, .string m.code, .slice Aa m.hs.length ca] 141)).cell? ⟨S, 0, none⟩ = some (.func (.func 154) #[] #[]) := cells_of H1.sbox 0
  have l0 : (w.alloc (.cells #[.int .i64 m.fl, .int .i64 m.nm, .int .i64 m.ds, .int .i64 m.ms, .int .i64 m.ml, .string m.code, .slice Aa m.hs.length ca] 141)).cell? ⟨Lb, 0, none⟩ = some (.slice (some ⟨b, o, none⟩) ms.length cap) := cells_of H1.lbox 0
  have i0 : (w.alloc (.cells #[.int .i64 m.fl, .int .i64 m.nm, .int .i64 m.ds, .int .i64 m.ms, .int .i64 m.ml, .string m.code, .slice Aa m.hs.length ca] 141)).cell? ⟨I, 0, none⟩ = some (.int .i64 (k : Int)) := cells_of H1.ibox 0
  have HFL := Lib.hid H1.file
  have hle := H1.le
  clear H1 BM h hrow hy
  go_enter Tryz.func179, Tryz.ntmps179
  go_wp2
  generalize w.alloc (.cells #[.int .i64 m.fl, .int .i64 m.nm, .int .i64 m.ds, .int .i64 m.ms, .int .i64 m.ml, .string m.code, .slice Aa m.hs.length ca] 141) = W at *
  refine wp_region_still_tail 7 (by kernel_rfl) (by kernel_rfl) ?_
  change wpStill _ _ W.drew _ _ _
  simp only [List.take_succ_cons, List.take_zero, List.drop_succ_cons, List.drop_zero]
  repeat still_step
  refine wpStill_nil ?_
  change wpList _ _ _ _ _ W.drew
  go_wp2_with fail
  refine (HS.out _ W.drew (HFL.out.drew) hle).mono ?_
  rintro e w1 ⟨rfl, hb⟩
  have BE1 := Lib.hid (Below.link BE.out.drew hb)
  clear hb
  go_wp2
  go_ret
  exact ⟨rfl, BE1.out⟩
end Go.Proofs.YtmaknddlgppinaaGreatDoor
/-! E10 -/
namespace Go.Proofs.YtmaknddlgppinaaGreatDoor
open Go.RowKit

theorem any_next {α : Type} {g : α → Bool} {l : List α} {k : Nat} {x : α} (hx : l[k]? = some x) (h : (l.take k).any g = false) : (l.take (k + 1)).any g = g x := by
  obtain ⟨hk, rfl⟩ := List.getElem?_eq_some_iff.1 hx
  rw [List.take_succ_eq_append_getElem hk, List.any_append, h]
  simp
theorem any_later {α : Type} {g : α → Bool} {l : List α} {j k : Nat} {x : α} (hx : l[j]? = some x) (hj : j < k) (h : g x = true) : (l.take k).any g = true := by
  rw [List.any_eq_true]
  refine ⟨x, ?_, h⟩
  obtain ⟨hl, rfl⟩ := List.getElem?_eq_some_iff.1 hx
  rw [List.mem_take_iff_getElem]
  exact ⟨j, by omega, rfl⟩
set_option maxRecDepth 1000000 in
set_option maxHeartbeats 6400000 in
theorem IndexN {B F S Lb I : Nat} {Ap Ai Af Am : Option Addr} {cp ci cf cm : Nat} {f : Fl} {b o cap : Nat} {ms : List Mb} {k : Nat} (w : World) (h : MEnv B 151 F S Lb I Ap cp Ai ci Af cf Am cm f (some ⟨b, o, none⟩) cap ms k w) (y : Mb) (hy : ms[k]? = some y) :
    Calls Tryz.prog 192 #[.slice (some ⟨b, o, none⟩) k cap, .func (.func 179) #[] #[.pointer (some ⟨S, 0, none⟩), .pointer (some ⟨F, 0, none⟩), .pointer (some ⟨Lb, 0, none⟩), .pointer (some ⟨I, 0, none⟩)]] w fun e w' => ∃ r : Int, e = .returned (.int .i64 r) ∧ (((ms.take k).any (fun d => sameN f.pool d y) = true ∧ 0 ≤ r) ∨ ((ms.take k).any (fun d => sameN f.pool d y) = false ∧ r = -1)) ∧ Below w.heap.size w w' := by
  have HC := Lib.hid (fun W (hW : MEnv B 151 F S Lb I Ap cp Ai ci Af cf Am cm f (some ⟨b, o, none⟩) cap ms k W) m Aa ca => closeN W hW y hy m Aa ca)
  have HH := Lib.hid h
  have hk : k < ms.length := (List.getElem?_eq_some_iff.1 hy).1
  have hmax : ms.length ≤ 9223372036854775807 := by
    obtain ⟨_, _, _, _, _, _, _, hm, _⟩ := h.rows
    unfold maxLen at hm
    exact hm
  clear h hy
  go_enter Tryz.func192, Tryz.ntmps192
  go_wp2
  go_loopg [8] k (fun g iv wx => ∃ j : Nat, iv = .int .i64 j ∧ j + g = k ∧ (ms.take j).any (fun d => sameN f.pool d y) = false ∧ MEnv B 151 F S Lb I Ap cp Ai ci Af cf Am cm f (some ⟨b, o, none⟩) cap ms k wx ∧ Below w.heap.size w wx)
  case atStart => exact ⟨0, rfl, by omega, by simp, HH.out, Below.refl _ _⟩
  case round =>
    obtain ⟨j, rfl, hjg, hany, henv, hbel⟩ := hrel
    have HANY := Lib.hid hany
    have HENV := Lib.hid henv
    have HBEL := Lib.hid hbel
    by_cases hj : j < k
    · have hgg : gk - 1 < gk := by omega
      have hjl : j < ms.length := by omega
      obtain ⟨x, hx⟩ : ∃ x, ms[j]? = some x := ⟨_, List.getElem?_eq_getElem hjl⟩
      obtain ⟨b', o', A', c', hbo, hb, hrow, y0, y1, y2, y3, y4, y5, y6⟩ := henv.rows.at_ hx
      injection hbo with hbo
      injection hbo with hbo1 hbo2
      subst hbo1 hbo2
      have HNX := Lib.hid (any_next hx HANY.out)
      have HLT := Lib.hid (fun h => any_later (g := fun d => sameN f.pool d y) hx hj h)
      have HCX := Lib.hid (HC.out _ HENV.out x A' c')
      clear hany henv hbel hrow hx
      cases hsm : sameN f.pool x y with
      | true =>
        rw [hsm] at HCX
        have HT := Lib.hid (HLT.out hsm)
        clear hsm
        go_wp2_with fail
        refine HCX.out.mono ?_
        rintro e w1 ⟨rfl, hb⟩
        have HB := Lib.hid (Below.link HBEL.out hb)
        clear hb y0 y1 y2 y3 y4 y5 y6
        go_wp2
        go_ret
        exact ⟨_, rfl, .inl ⟨HT.out, by omega⟩, HB.out⟩
      | false =>
        rw [hsm] at HCX
        have HF := Lib.hid (HNX.out.trans hsm)
        clear hsm
        go_wp2_with fail
        refine HCX.out.mono ?_
        rintro e w1 ⟨rfl, hb⟩
        have HB := Lib.hid (Below.link HBEL.out hb)
        have HE1 := Lib.hid (HENV.out.below hb (Nat.le_refl _))
        clear hb y0 y1 y2 y3 y4 y5 y6
        go_wp2
        go_roundg (gk - 1)
        case measure => exact hgg
        case rel => exact ⟨j + 1, by go_num, by omega, HF.out, HE1.out, HB.out⟩
    · obtain rfl : j = k := by omega
      clear hany henv hbel
      go_wp2
      go_ret
      exact ⟨_, rfl, .inr ⟨HANY.out, rfl⟩, HBEL.out⟩
set_option maxRecDepth 1000000 in
set_option maxHeartbeats 6400000 in
theorem ContainsN {B F S Lb I : Nat} {Ap Ai Af Am : Option Addr} {cp ci cf cm : Nat} {f : Fl} {b o cap : Nat} {ms : List Mb} {k : Nat} (w : World) (h : MEnv B 151 F S Lb I Ap cp Ai ci Af cf Am cm f (some ⟨b, o, none⟩) cap ms k w) (y : Mb) (hy : ms[k]? = some y) :
    Calls Tryz.prog 178 #[.slice (some ⟨b, o, none⟩) k cap, .func (.func 179) #[] #[.pointer (some ⟨S, 0, none⟩), .pointer (some ⟨F, 0, none⟩), .pointer (some ⟨Lb, 0, none⟩), .pointer (some ⟨I, 0, none⟩)]] w fun e w' => e = .returned (.bool ((ms.take k).any (fun d => sameN f.pool d y))) ∧ Below w.heap.size w w' := by
  have HI := Lib.hid (IndexN w h y hy)
  clear h
  generalize (ms.take k).any (fun d => sameN f.pool d y) = R at *
  go_enter Tryz.func178, Tryz.ntmps178
  go_wp2_with fail
  refine HI.out.mono ?_
  rintro e w1 ⟨r, rfl, hr, hb⟩
  have HB := Lib.hid hb
  clear hb
  rcases hr with ⟨rfl, hr⟩ | ⟨rfl, rfl⟩
  all_goals
    go_wp2
    go_ret
    exact ⟨ret_b (by first | rfl | simp [*]), HB.out⟩
set_option maxRecDepth 1000000 in
set_option maxHeartbeats 6400000 in
theorem IndexM {B F S Lb I : Nat} {Ap Ai Af Am : Option Addr} {cp ci cf cm : Nat} {f : Fl} {b o cap : Nat} {ms : List Mb} {k : Nat} (w : World) (h : MEnv B 154 F S Lb I Ap cp Ai ci Af cf Am cm f (some ⟨b, o, none⟩) cap ms k w) (y : Mb) (hy : ms[k]? = some y) :
    Calls Tryz.prog 192 #[.slice (some ⟨b, o, none⟩) k cap, .func (.func 179) #[] #[.pointer (some ⟨S, 0, none⟩), .pointer (some ⟨F, 0, none⟩), .pointer (some ⟨Lb, 0, none⟩), .pointer (some ⟨I, 0, none⟩)]] w fun e w' => ∃ r : Int, e = .returned (.int .i64 r) ∧ (((ms.take k).any (fun d => sameM f.pool d y) = true ∧ 0 ≤ r) ∨ ((ms.take k).any (fun d => sameM f.pool d y) = false ∧ r = -1)) ∧ Below w.heap.size w w' := by
  have HC := Lib.hid (fun W (hW : MEnv B 154 F S Lb I Ap cp Ai ci Af cf Am cm f (some ⟨b, o, none⟩) cap ms k W) m Aa ca => closeM W hW y hy m Aa ca)
  have HH := Lib.hid h
  have hk : k < ms.length := (List.getElem?_eq_some_iff.1 hy).1
  have hmax : ms.length ≤ 9223372036854775807 := by
    obtain ⟨_, _, _, _, _, _, _, hm, _⟩ := h.rows
    unfold maxLen at hm
    exact hm
  clear h hy
  go_enter Tryz.func192, Tryz.ntmps192
  go_wp2
  go_loopg [8] k (fun g iv wx => ∃ j : Nat, iv = .int .i64 j ∧ j + g = k ∧ (ms.take j).any (fun d => sameM f.pool d y) = false ∧ MEnv B 154 F S Lb I Ap cp Ai ci Af cf Am cm f (some ⟨b, o, none⟩) cap ms k wx ∧ Below w.heap.size w wx)
  case atStart => exact ⟨0, rfl, by omega, by simp, HH.out, Below.refl _ _⟩
  case round =>
    obtain ⟨j, rfl, hjg, hany, henv, hbel⟩ := hrel
    have HANY := Lib.hid hany
    have HENV := Lib.hid henv
    have HBEL := Lib.hid hbel
    by_cases hj : j < k
    · have hgg : gk - 1 < gk := by omega
      have hjl : j < ms.length := by omega
      obtain ⟨x, hx⟩ : ∃ x, ms[j]? = some x := ⟨_, List.getElem?_eq_getElem hjl⟩
      obtain ⟨b', o', A', c', hbo, hb, hrow, y0, y1, y2, y3, y4, y5, y6⟩ := henv.rows.at_ hx
      injection hbo with hbo
      injection hbo with hbo1 hbo2
      subst hbo1 hbo2
      have HNX := Lib.hid (any_next hx HANY.out)
      have HLT := Lib.hid (fun h => any_later (g := fun d => sameM f.pool d y) hx hj h)
      have HCX := Lib.hid (HC.out _ HENV.out x A' c')
      clear hany henv hbel hrow hx
      cases hsm : sameM f.pool x y with
      | true =>
        rw [hsm] at HCX
        have HT := Lib.hid (HLT.out hsm)
        clear hsm
        go_wp2_with fail
        refine HCX.out.mono ?_
        rintro e w1 ⟨rfl, hb⟩
        have HB := Lib.hid (Below.link HBEL.out hb)
        clear hb y0 y1 y2 y3 y4 y5 y6
        go_wp2
        go_ret
        exact ⟨_, rfl, .inl ⟨HT.out, by omega⟩, HB.out⟩
      | false =>
        rw [hsm] at HCX
        have HF := Lib.hid (HNX.out.trans hsm)
        clear hsm
        go_wp2_with fail
        refine HCX.out.mono ?_
        rintro e w1 ⟨rfl, hb⟩
        have HB := Lib.hid (Below.link HBEL.out hb)
        have HE1 := Lib.hid (HENV.out.below hb (Nat.le_refl _))
        clear hb y0 y1 y2 y3 y4 y5 y6
        go_wp2
        go_roundg (gk - 1)
        case measure => exact hgg
        case rel => exact ⟨j + 1, by go_num, by omega, HF.out, HE1.out, HB.out⟩
    · obtain rfl : j = k := by omega
      clear hany henv hbel
      go_wp2
      go_ret
      exact ⟨_, rfl, .inr ⟨HANY.out, rfl⟩, HBEL.out⟩
set_option maxRecDepth 1000000 in
set_option maxHeartbeats 6400000 in
theorem ContainsM {B F S Lb I : Nat} {Ap Ai Af Am : Option Addr} {cp ci cf cm : Nat} {f : Fl} {b o cap : Nat} {ms : List Mb} {k : Nat} (w : World) (h : MEnv B 154 F S Lb I Ap cp Ai ci Af cf Am cm f (some ⟨b, o, none⟩) cap ms k w) (y : Mb) (hy : ms[k]? = some y) :
    Calls Tryz.prog 178 #[.slice (some ⟨b, o, none⟩) k cap, .func (.func 179) #[] #[.pointer (some ⟨S, 0, none⟩), .pointer (some ⟨F, 0, none⟩), .pointer (some ⟨Lb, 0, none⟩), .pointer (some ⟨I, 0, none⟩)]] w fun e w' => e = .returned (.bool ((ms.take k).any (fun d => sameM f.pool d y))) ∧ Below w.heap.size w w' := by
  have HI := Lib.hid (IndexM w h y hy)
  clear h
  generalize (ms.take k).any (fun d => sameM f.pool d y) = R at *
  go_enter Tryz.func178, Tryz.ntmps178
  go_wp2_with fail
  refine HI.out.mono ?_
  rintro e w1 ⟨r, rfl, hr, hb⟩
  have HB := Lib.hid hb
  clear hb
  rcases hr with ⟨rfl, hr⟩ | ⟨rfl, rfl⟩
  all_goals
    go_wp2
    go_ret
    exact ⟨ret_b (by first | rfl | simp [*]), HB.out⟩
end Go.Proofs.YtmaknddlgppinaaGreatDoor
