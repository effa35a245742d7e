/-
  WALK of shown: chapter 12's examples.
-/
import Derived.Test.YtgepgbpjdjbelaaRl
set_option linter.unusedVariables false
set_option linter.unusedSimpArgs false
namespace Go.Proofs.Ytgepgbpjdjbelaa
open Go.RowKit

def kq (k : Int) : KQ := (k, 0, ⟨#[]⟩, 0)
theorem row_new {w : World} {b : Nat} {l : List KQ} {n : Nat} (h : w.heap[b]? = some (.cells (l.flatMap kcells).toArray 64 (0, 0))) (hn : l.length = n) (hm : n ≤ 1000) : KRow w.heap.size w (.slice (some ⟨b, 0, none⟩) n n) l := by
  subst hn
  have hl : (l.flatMap kcells).length = l.length * 4 := by
    induction l with
    | nil => rfl
    | cons x l ih =>
      have : ∀ l : List KQ, (l.flatMap kcells).length = l.length * 4 := by
        intro l
        induction l with
        | nil => rfl
        | cons x l ih =>
          rw [List.flatMap_cons, List.length_append, ih, List.length_cons]
          show 4 + _ = _
          omega
      exact this _
  exact Row.of_own (own_new (base := 0) (size := 4) h (Nat.zero_le _) hl (by unfold maxLen; omega))
theorem bool_new {w : World} {b : Nat} {l : List Bool} {n : Nat} (h : w.heap[b]? = some (.cells (bcells l).toArray 4 (0, 0))) (hn : l.length = n) (hm : n ≤ 1000) : BRow w.heap.size w (.slice (some ⟨b, 0, none⟩) n n) l := by
  subst hn
  exact Row.of_own (own_new (base := 0) (size := 1) h (Nat.zero_le _) (by rw [bcells_len, Nat.mul_one]) (by unfold maxLen; omega))
set_option maxRecDepth 1000000 in
set_option maxHeartbeats 6400000 in
theorem shown_any (w : World) : Calls Try.prog 7 #[] w fun e w' => e = .returned (.bool true) ∧ Below w.heap.size w w' := by
  obtain ⟨W3, hW3⟩ : ∃ W, ((w.alloc (.cells #[.int .i64 1, .int .i64 0, .string ⟨#[]⟩, .int .i64 0, .int .i64 2, .int .i64 0, .string ⟨#[]⟩, .int .i64 0, .int .i64 0, .int .i64 0, .string ⟨#[]⟩, .int .i64 0] 64)).alloc (.cells #[.int .i64 4, .int .i64 0, .string ⟨#[]⟩, .int .i64 0] 64)).alloc (.cells #[.slice (some ⟨w.heap.size, 0, none⟩) 3 3, .slice (some ⟨w.heap.size + 1, 0, none⟩) 1 1] 31) = W := ⟨_, rfl⟩
  have b3 : Below w.heap.size w W3 := by
    rw [← hW3]
    exact (((Below.refl _ w).alloc (Nat.le_refl _) _).alloc (by simp) _).alloc (by simp; omega) _
  have h1 : W3.heap[w.heap.size]? = some (.cells #[.int .i64 1, .int .i64 0, .string ⟨#[]⟩, .int .i64 0, .int .i64 2, .int .i64 0, .string ⟨#[]⟩, .int .i64 0, .int .i64 0, .int .i64 0, .string ⟨#[]⟩, .int .i64 0] 64 (0, 0)) := by
    rw [← hW3]
    exact heap_alloc_lt (heap_alloc_lt (heap_new w _))
  have h2 : W3.heap[w.heap.size + 1]? = some (.cells #[.int .i64 4, .int .i64 0, .string ⟨#[]⟩, .int .i64 0] 64 (0, 0)) := by
    rw [← hW3]
    refine heap_alloc_lt ?_
    have := heap_new (w.alloc (.cells #[.int .i64 1, .int .i64 0, .string ⟨#[]⟩, .int .i64 0, .int .i64 2, .int .i64 0, .string ⟨#[]⟩, .int .i64 0, .int .i64 0, .int .i64 0, .string ⟨#[]⟩, .int .i64 0] 64)) (.cells #[.int .i64 4, .int .i64 0, .string ⟨#[]⟩, .int .i64 0] 64)
    rwa [World.size_alloc] at this
  have h3 : W3.heap[w.heap.size + 1 + 1]? = some (.cells #[.slice (some ⟨w.heap.size, 0, none⟩) 3 3, .slice (some ⟨w.heap.size + 1, 0, none⟩) 1 1] 31 (0, 0)) := by
    rw [← hW3]
    have := heap_new ((w.alloc (.cells #[.int .i64 1, .int .i64 0, .string ⟨#[]⟩, .int .i64 0, .int .i64 2, .int .i64 0, .string ⟨#[]⟩, .int .i64 0, .int .i64 0, .int .i64 0, .string ⟨#[]⟩, .int .i64 0] 64)).alloc (.cells #[.int .i64 4, .int .i64 0, .string ⟨#[]⟩, .int .i64 0] 64)) (.cells #[.slice (some ⟨w.heap.size, 0, none⟩) 3 3, .slice (some ⟨w.heap.size + 1, 0, none⟩) 1 1] 31)
    rwa [World.size_alloc, World.size_alloc] at this
  have z0 := cells_of h3 0
  have z1 := cells_of h3 1
  simp only [List.getElem?_toArray, List.getElem?_cons_succ, List.getElem?_cons_zero] at z0 z1
  have z2 := lt_of_block h3
  have R1 := Lib.hid (row_new (l := [kq 1, kq 2, kq 0]) (n := 3) h1 rfl (by omega))
  have R2 := Lib.hid (row_new (l := [kq 4]) (n := 1) h2 rfl (by omega))
  have B3 := Lib.hid b3
  clear b3 h1 h2 h3
  go_enter Try.func7, Try.ntmps7
  go_wp2_with fail
  refine (Of_any [kq 1, kq 2, kq 0] [kq 4] _ _ W3.heap.size W3 R1.out R2.out (Nat.le_refl _) (by simp) (by simp)).mono ?_
  rintro e w1 ⟨v1, v2, rfl, o1, o2, b1⟩
  obtain ⟨a1, c1, e1⟩ := o1.form
  obtain ⟨a2, c2, e2⟩ := o2.form
  rw [show ([kq 1, kq 2, kq 0].map isRefQ) = [false, true, false] from by decide] at o1 e1
  rw [show ([kq 4].map isRefQ) = [true] from by decide] at o2 e2
  have B1 := Lib.hid (Below.link' B3.out b1)
  simp only [List.length_cons, List.length_nil, Nat.zero_add, Nat.reduceAdd] at e1 e2
  subst e1
  subst e2
  have O1 := Lib.hid o1.row
  have O2 := Lib.hid o2.row
  clear z0 z1 z2 hW3 b1 o1 o2 R1 R2 B3
  have hb4 : Below w1.heap.size w1 ((w1.alloc (.cells #[.slice a1 3 c1, .slice a2 1 c2] 27)).alloc (.cells #[.bool false, .bool true, .bool false] 4)) := ((Below.refl _ w1).alloc (Nat.le_refl _) _).alloc (by simp) _
  have hm4 : ((w1.alloc (.cells #[.slice a1 3 c1, .slice a2 1 c2] 27)).alloc (.cells #[.bool false, .bool true, .bool false] 4)).heap[w1.heap.size]? = some (.cells #[.slice a1 3 c1, .slice a2 1 c2] 27 (0, 0)) := heap_alloc_lt (heap_new w1 _)
  have hl4 : ((w1.alloc (.cells #[.slice a1 3 c1, .slice a2 1 c2] 27)).alloc (.cells #[.bool false, .bool true, .bool false] 4)).heap[w1.heap.size + 1]? = some (.cells #[.bool false, .bool true, .bool false] 4 (0, 0)) := by
    have := heap_new (w1.alloc (.cells #[.slice a1 3 c1, .slice a2 1 c2] 27)) (.cells #[.bool false, .bool true, .bool false] 4)
    rwa [World.size_alloc] at this
  have HB4 := Lib.hid hb4
  have HM4 := Lib.hid hm4
  have HL4 := Lib.hid (bool_new (l := [false, true, false]) (n := 3) hl4 rfl (by omega))
  have O14 := Lib.hid ((O1.out.below hb4 (Nat.le_refl _)).more hb4.size)
  clear hb4 hm4 hl4
  go_wp2_with fail
  refine (sameBits_eq _ [false, true, false] [false, true, false] true (by decide) _ _ _ O14.out HL4.out (Nat.le_refl _)).mono ?_
  rintro e w4 ⟨rfl, k4, hk4⟩
  have hb5 : Below w1.heap.size w1 w4 := by rw [hk4]; exact below_drewN HB4.out k4
  have hm5 : w4.heap[w1.heap.size]? = some (.cells #[.slice a1 3 c1, .slice a2 1 c2] 27 (0, 0)) := by rw [hk4]; exact HM4.out
  obtain ⟨mb, hmb⟩ : ∃ b, w1.heap.size = b := ⟨_, rfl⟩
  have O15 := Lib.hid ((O1.out.below hb5 (Nat.le_refl _)).more hb5.size)
  have O25 := Lib.hid ((O2.out.below hb5 (Nat.le_refl _)).more hb5.size)
  have B5 := Lib.hid (Below.link' B1.out hb5)
  rw [hmb] at hm5 ⊢
  clear hk4 hb5 HB4 HM4 HL4 O14 O1 O2 B1 hmb
  have hb6 : Below w4.heap.size w4 (w4.alloc (.cells #[.bool true] 4)) := (Below.refl _ w4).alloc (Nat.le_refl _) _
  have hm6 : (w4.alloc (.cells #[.bool true] 4)).heap[mb]? = some (.cells #[.slice a1 3 c1, .slice a2 1 c2] 27 (0, 0)) := heap_alloc_lt hm5
  have HL6 := Lib.hid (bool_new (l := [true]) (n := 1) (heap_new w4 (.cells #[.bool true] 4)) rfl (by omega))
  have O26 := Lib.hid ((O25.out.below hb6 (Nat.le_refl _)).more hb6.size)
  have O16 := Lib.hid ((O15.out.below hb6 (Nat.le_refl _)).more hb6.size)
  have B6 := Lib.hid (Below.link' B5.out hb6)
  have HM6 := Lib.hid hm6
  have z0 := cells_of hm5 0
  have z1 := cells_of hm5 1
  simp only [List.getElem?_toArray, List.getElem?_cons_succ, List.getElem?_cons_zero] at z0 z1
  have z2 := lt_of_block hm5
  clear hb6 hm6 hm5 O15 O25 B5
  go_wp2_with fail
  refine (sameBits_eq _ [true] [true] true (by decide) _ _ _ O26.out HL6.out (Nat.le_refl _)).mono ?_
  rintro e w6 ⟨rfl, k6, hk6⟩
  have hm7 : w6.heap[mb]? = some (.cells #[.slice a1 3 c1, .slice a2 1 c2] 27 (0, 0)) := by rw [hk6]; exact HM6.out
  have O17 := Lib.hid (show BRow w6.heap.size w6 (.slice a1 3 c1) [false, true, false] by rw [hk6]; exact O16.out.drewN k6)
  have O27 := Lib.hid (show BRow w6.heap.size w6 (.slice a2 1 c2) [true] by rw [hk6]; exact O26.out.drewN k6)
  have B7 := Lib.hid (show Below w.heap.size w w6 by rw [hk6]; exact below_drewN B6.out k6)
  clear hk6 z0 z1 z2 O16 O26 B6 HM6 HL6
  have z0 := cells_of hm7 0
  have z1 := cells_of hm7 1
  simp only [List.getElem?_toArray, List.getElem?_cons_succ, List.getElem?_cons_zero] at z0 z1
  have z2 := lt_of_block hm7
  have hb8 : Below w6.heap.size w6 (w6.alloc (.cells #[.slice a1 3 c1, .slice a2 1 c2] 27)) := (Below.refl _ w6).alloc (Nat.le_refl _) _
  have HM8 := Lib.hid (show MRow (w6.alloc (.cells #[.slice a1 3 c1, .slice a2 1 c2] 27)).heap.size (w6.alloc (.cells #[.slice a1 3 c1, .slice a2 1 c2] 27)) (.slice (some ⟨w6.heap.size, 0, none⟩) 1 1) [([false, true, false], [true])] from by
    refine ⟨[(.slice a1 3 c1, .slice a2 1 c2)], ⟨rfl, ?_⟩, ?_⟩
    · intro i x p hx hp
      match i, hx, hp with
      | 0, hx, hp =>
        simp only [List.getElem?_cons_zero, Option.some.injEq] at hx hp
        subst hx; subst hp
        exact ⟨(O17.out.below hb8 (Nat.le_refl _)).more hb8.size, (O27.out.below hb8 (Nat.le_refl _)).more hb8.size⟩
      | k + 1, hx, hp => simp at hx
    · exact Row.of_own (own_new (base := 0) (size := 2) (heap_new w6 (.cells #[.slice a1 3 c1, .slice a2 1 c2] 27)) (Nat.zero_le _) rfl (by unfold maxLen; omega)))
  have B8 := Lib.hid (Below.link' B7.out hb8)
  clear hb8 hm7 B7
  go_wp2_with fail
  refine (Pack_any [([false, true, false], [true])] _ _ _ HM8.out (Nat.le_refl _)).mono ?_
  rintro e w8 ⟨rfl, b8⟩
  rw [ex_5.1, ex_5.2]
  have B9 := Lib.hid (Below.link' B8.out b8)
  clear b8 B8 HM8 z0 z1 z2 O17 O27
  have HU := fun (s : ByteArray) (W : World) => Lib.hid (Unpack_any s W)
  have HU1 := fun W => Lib.hid (ex_1 ▸ Unpack_any ⟨#[0, 1, 3, 1, 80]⟩ W)
  have HU2 := fun W => Lib.hid (ex_2 ▸ Unpack_any ⟨#[0, 1, 3, 1, 81]⟩ W)
  have HU3 := fun W => Lib.hid (ex_3 ▸ Unpack_any ⟨#[0, 1, 3, 1]⟩ W)
  have HU4 := fun W => Lib.hid (ex_4 ▸ Unpack_any ⟨#[0, 1, 65, 0]⟩ W)
  go_wp2_with fail
  refine (HU1 _).out.mono ?_
  rintro e w9 ⟨b9, v9, rfl, hv9⟩
  obtain ⟨A9, c9, rfl, _, _⟩ := hv9.form
  have B10 := Lib.hid (Below.link' B9.out b9)
  have V9 := Lib.hid hv9
  clear b9 B9 hv9
  go_wp2_with fail
  refine (HU2 _).out.mono ?_
  rintro e w10 ⟨b10, v10, rfl, _⟩
  have B11 := Lib.hid (Below.link' B10.out b10)
  have V10 := Lib.hid ((V9.out.below b10 (Nat.le_refl _)).more b10.size)
  clear b10 B10 V9
  go_wp2_with fail
  refine (HU3 _).out.mono ?_
  rintro e w11 ⟨b11, v11, rfl, _⟩
  have B12 := Lib.hid (Below.link' B11.out b11)
  have V11 := Lib.hid ((V10.out.below b11 (Nat.le_refl _)).more b11.size)
  clear b11 B11 V10
  go_wp2_with fail
  refine (HU4 _).out.mono ?_
  rintro e w12 ⟨b12, v12, rfl, _⟩
  have B13 := Lib.hid (Below.link' B12.out b12)
  have V12 := (V11.out.below b12 (Nat.le_refl _)).more b12.size
  obtain ⟨b, o, g1, d1, g2, d2, rfl, hbl, _, _, x0, x1⟩ := V12.at_ (k := 0) rfl
  rw [Nat.zero_mul, Nat.add_zero] at x0
  clear b12 B12 V11 V12 HU HU1 HU2 HU3 HU4 x1
  go_wp2
  go_ret
  exact ⟨rfl, B13.out⟩
end Go.Proofs.Ytgepgbpjdjbelaa
