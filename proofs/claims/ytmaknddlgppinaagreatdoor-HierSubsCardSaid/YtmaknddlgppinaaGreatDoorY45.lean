/-
  CUT and joined from the texts of this seat: Jh
-/
import Derived.Test.YtmaknddlgppinaaGreatDoorY01
import Derived.Test.YtmaknddlgppinaaGreatDoorY44
import Derived.Test.YtmaknddlgppinaaGreatDoorY30
import Derived.Test.YtmaknddlgppinaaGreatDoorY10
set_option linter.unusedVariables false
set_option linter.unusedSimpArgs false
namespace Go.Proofs.YtmaknddlgppinaaGreatDoor
open Go.RowKit
theorem str_row (w : World) (l : List ByteArray) (hl : l.length ≤ 1000) : Row (w.alloc (.cells (scells l).toArray 9)).heap.size 1 (w.alloc (.cells (scells l).toArray 9)) (.slice (some ⟨w.heap.size, 0, none⟩) l.length l.length) l.length (scells l) := by
 have hk := kcells_of (hheap_new w (.cells (scells l).toArray 9))
 refine ⟨some ⟨w.heap.size, 0, none⟩, l.length, rfl, Nat.le_refl _, by unfold maxLen; omega, by simp [scells], fun hn => ⟨w.heap.size, 0, rfl, by simp, fun j u hj => ?_⟩⟩
 rw [Nat.zero_add, hk]
 simpa using hj
/-- What shown has at hand: its table, three types in boxes. -/
structure Sh (w0 : World) (B nb mb : Nat) (A : Option Addr) (cap : Nat) (cl sl : Nat → Nat) (S : Nat → List Nat) (x4 x5 x6 : Nat) (w : World) : Prop where
 ht : HT B nb mb A cap builtP.length cs6 cl sl S w
 a : w.heap[x4]? = some (.cells #[.int .i64 1, .string ⟨#[65]⟩] 31 (0, 0))
 b : w.heap[x5]? = some (.cells #[.int .i64 1, .string ⟨#[66]⟩] 31 (0, 0))
 n : w.heap[x6]? = some (.cells #[.int .i64 1, .string ⟨#[]⟩] 31 (0, 0))
 below : Below w0.heap.size w0 w
 ge : B ≤ w.heap.size
 ge0 : w0.heap.size ≤ w.heap.size
theorem Sh.next {w0 : World} {B nb mb : Nat} {A : Option Addr} {cap : Nat} {cl sl : Nat → Nat} {S : Nat → List Nat} {x4 x5 x6 : Nat} {w w' : World} (h : Sh w0 B nb mb A cap cl sl S x4 x5 x6 w) (hb : Below w.heap.size w w') : Sh w0 B nb mb A cap cl sl S x4 x5 x6 w' :=
 ⟨h.ht.below (hb.mono h.ge), (hb.block _ (lt_of_block h.a)).trans h.a, (hb.block _ (lt_of_block h.b)).trans h.b, (hb.block _ (lt_of_block h.n)).trans h.n, h.below.trans (hb.mono h.ge0), Nat.le_trans h.ge hb.size, Nat.le_trans h.ge0 hb.size⟩
theorem Sh.push {w0 : World} {B nb mb : Nat} {A : Option Addr} {cap : Nat} {cl sl : Nat → Nat} {S : Nat → List Nat} {x4 x5 x6 : Nat} {w : World} (h : Sh w0 B nb mb A cap cl sl S x4 x5 x6 w) (o : Obj) : Sh w0 B nb mb A cap cl sl S x4 x5 x6 (w.alloc o) := h.next ((Below.refl _ _).alloc (Nat.le_refl _) o)
theorem Sh.start {w0 w : World} {B nb mb : Nat} {A : Option Addr} {cap : Nat} {cl sl : Nat → Nat} {S : Nat → List Nat} (ht : HT B nb mb A cap builtP.length cs6 cl sl S w) (hb : Below w0.heap.size w0 w) (hB : B ≤ w.heap.size) (h0 : w0.heap.size ≤ w.heap.size) :
  Sh w0 B nb mb A cap cl sl S w.heap.size (w.heap.size + 1) (w.heap.size + 1 + 1) (((w.alloc (.cells #[.int .i64 1, .string ⟨#[65]⟩] 31)).alloc (.cells #[.int .i64 1, .string ⟨#[66]⟩] 31)).alloc (.cells #[.int .i64 1, .string ⟨#[]⟩] 31)) := by
 have b3 : Below w.heap.size w (((w.alloc (.cells #[.int .i64 1, .string ⟨#[65]⟩] 31)).alloc (.cells #[.int .i64 1, .string ⟨#[66]⟩] 31)).alloc (.cells #[.int .i64 1, .string ⟨#[]⟩] 31)) := (((Below.refl _ w).alloc (Nat.le_refl _) _).alloc (by simp) _).alloc (by simp; omega) _
 refine ⟨ht.below (b3.mono hB), ?_, ?_, hheap_at _ _ _ (by simp), hb.trans (b3.mono h0), Nat.le_trans hB b3.size, Nat.le_trans h0 b3.size⟩
 ·exact hheap_alloc_lt (hheap_alloc_lt (hheap_new w _))
 ·exact hheap_alloc_lt (hheap_at _ _ _ (by simp))
theorem lub_res {a b : TY} {w w' : World} {e : Ending} {d : Int} {l : ByteArray} (h : LubAns cs6 a b w w' e) (ok : LubOk cs6 a b) (hl : lubT cs6 a b = (d, l.data.toList)) : e = .returned (.tuple #[.agg #[.int .i64 d, .string l], .bool true]) ∧ Below w.heap.size w w' := by
 obtain ⟨d', s, k, rfl, h1, h2, h3, h4, hb⟩ := h
 obtain rfl : k = true := h1.2 ok
 have := h2 rfl
 rw [hl] at this
 injection this with e1 e2
 subst e1
 have : s = l := by
  cases s; cases l
  congr 1
  exact Array.toList_inj.1 e2
 rw [this]
 exact ⟨rfl, hb⟩
theorem ok6 {a b : TY} (h1 : hasC cs6 a = true) (h2 : hasC cs6 b = true) (h3 : a ≠ intT) (h4 : b ≠ intT) : LubOk cs6 a b := ⟨hasC_has h1, hasC_has h2, h3, h4⟩
set_option maxRecDepth 1000000 in
set_option maxHeartbeats 60000000 in
theorem shown_any {w : World} (hN : Blt w) :
  Calls Tryz.prog 14 #[] w fun e w' => e = .returned (.bool true) ∧ Below w.heap.size w w' := by
 have h0 : 0 < w.heap.size := hN.lt
 have HN := Lib.hid hN
 clear hN
 go_enter Tryz.func14, Tryz.ntmps14
 go_wp2_with fail
 refine (file_any 0 ⟨#[65]⟩ ⟨#[79, 98, 106, 101, 99, 116]⟩ [] (.slice none 0 0) w (B := w.heap.size) Row.nil (Nat.le_refl _) (by simp)).mono ?_
 rintro e w1 ⟨vp1, vi1, rfl, p1, q1, b1⟩
 have F1 := Lib.hid (FileV.of (fl := 0) p1 q1)
 have B1 := Lib.hid b1
 clear p1 q1 b1
 go_wp2_with fail
 have R2 := str_row w1 [⟨#[73]⟩] (by simp)
 refine (file_any 0 ⟨#[66]⟩ ⟨#[65]⟩ [⟨#[73]⟩] _ _ R2 (Nat.le_refl _) (by simp)).mono ?_
 rintro e w2 ⟨vp2, vi2, rfl, p2, q2, b2⟩
 have F2 := Lib.hid (FileV.of (fl := 0) p2 q2)
 have b2' := ((Below.refl _ w1).alloc (Nat.le_refl _) (.cells (scells [⟨#[73]⟩]).toArray 9)).trans (b2.mono (by simp))
 have F12 := Lib.hid (F1.out.next b2')
 have B2 := Lib.hid (B1.out.trans (b2'.mono B1.out.size))
 clear p2 q2 b2 b2' F1 R2
 go_wp2_with fail
 refine (file_any 3 ⟨#[73]⟩ ⟨#[79, 98, 106, 101, 99, 116]⟩ [] (.slice none 0 0) w2 (B := w2.heap.size) Row.nil (Nat.le_refl _) (by simp)).mono ?_
 rintro e w3 ⟨vp3, vi3, rfl, p3, q3, b3⟩
 have F3 := Lib.hid (FileV.of (fl := 3) p3 q3)
 have F13 := Lib.hid (F12.out.next b3)
 have F23 := Lib.hid (F2.out.next b3)
 have B3 := Lib.hid (B2.out.trans (b3.mono B2.out.size))
 clear p3 q3 b3 F12 F2
 go_wp2_with fail
 have hr := lit_row (w := w3) fl6 [.agg #[vp1, .int .i64 0, .int .i64 2, .int .i64 4, vi1, .slice none 0 0, .slice none 0 0], .agg #[vp2, .int .i64 0, .int .i64 2, .int .i64 4, vi2, .slice none 0 0, .slice none 0 0], .agg #[vp3, .int .i64 3, .int .i64 2, .int .i64 4, vi3, .slice none 0 0, .slice none 0 0]] rfl (fun i f x hi hx => by
  match i with
  | 0 => cases hi; cases hx; exact F13.out
  | 1 => cases hi; cases hx; exact F23.out
  | 2 => cases hi; cases hx; exact F3.out
  | i + 3 => cases hi) (by decide)
 have b4 := (Below.refl w3.heap.size w3).alloc (Nat.le_refl _) (.cells #[vp1, .int .i64 0, .int .i64 2, .int .i64 4, vi1, .slice none 0 0, .slice none 0 0, vp2, .int .i64 0, .int .i64 2, .int .i64 4, vi2, .slice none 0 0, .slice none 0 0, vp3, .int .i64 3, .int .i64 2, .int .i64 4, vi3, .slice none 0 0, .slice none 0 0] 94)
 refine (New6 (HN.out.below (B3.out.trans (b4.mono B3.out.size))) _ hr (Nat.le_refl _)).mono ?_
 rintro e w5 ⟨⟨nb, mb, A, cap, cl, sl, S, rfl, ht⟩, b5⟩
 have B5 := Lib.hid (B3.out.trans ((b4.trans (b5.mono b4.size)).mono B3.out.size))
 have SH := Lib.hid (Sh.start ht B5.out (Nat.le_refl _) B5.out.size)
 clear hr b4 ht b5 F13 F23 F3 B1 B2 B3
 go_upto_region 7 with fail
 generalize w5.heap.size = B6 at SH ⊢
 obtain ⟨x6, hx6⟩ : ∃ x, x = B6 + 1 + 1 := ⟨_, rfl⟩
 obtain ⟨x5, hx5⟩ : ∃ x, x = B6 + 1 := ⟨_, rfl⟩
 obtain ⟨x4, hx4⟩ : ∃ x, x = B6 := ⟨_, rfl⟩
 obtain ⟨WW, hWW⟩ : ∃ x, x = (((w5.alloc (.cells #[.int .i64 1, .string ⟨#[65]⟩] 31)).alloc (.cells #[.int .i64 1, .string ⟨#[66]⟩] 31)).alloc (.cells #[.int .i64 1, .string ⟨#[]⟩] 31)) := ⟨_, rfl⟩
 have SH2 : Sh w B6 nb mb A cap cl sl S x4 x5 x6 WW := by rw [hx4, hx5, hx6, hWW]; exact SH.out
 rw [← hWW, ← hx6, ← hx5, ← hx4]
 have SX := Lib.hid SH2
 clear hWW hx6 hx5 hx4 SH SH2 B5
 go_cut [7] (fun v wx => v = .bool true ∧ Sh w B6 nb mb A cap cl sl S x4 x5 x6 wx)
 case first => as_aux_lemma =>
  have T0 := SX.out.next (Below.refl _ _).drew
  refine wp_region_held_drew (S := fun V => Sh w B6 nb mb A cap cl sl S x4 x5 x6 V) (by kernel_rfl) T0 (fun hS0 => ?_)
  refine wpAnyH_take (i := 0) (oi := _) (v := ?v1) rfl (by kernel_rfl) (by kernel_rfl) (by kernel_rfl) (fun _ _ _ h => h) (Or.inl ⟨by rfl, ?hy1⟩) T0 ?_
  case hy1 => (intro V hSw; go_simp; try with_reducible rfl)
  try simp only [pu0, puN, pu1, pu2, pu3]
  refine wpAnyH_ready (rs := [1]) (by kernel_rfl) (by simp) ?_
  refine (AllReadyH.cons (o := _) rfl (fun K hK => ?_) AllReadyH.nil)
  go_simp
  go_at_call 32
  refine (class_any _ _).mono ?_
  rintro e W1 ⟨rfl, hb1⟩
  have T1 := T0.next hb1
  try go_wp2_with fail
  refine hK.out _ _ T1 (fun hS1 => ?_)
  clear hK K
  try simp only [pu0, puN, pu1, pu2, pu3]
  refine wpAnyH_ready (rs := [2]) (by kernel_rfl) (by simp) ?_
  refine (AllReadyH.cons (o := _) rfl (fun K hK => ?_) AllReadyH.nil)
  go_simp
  go_at_call 32
  refine (class_any _ _).mono ?_
  rintro e W2 ⟨rfl, hb2⟩
  have T2 := T1.next hb2
  try go_wp2_with fail
  refine hK.out _ _ T2 (fun hS2 => ?_)
  clear hK K
  try simp only [pu0, puN, pu1, pu2, pu3]
  refine wpAnyH_ready (rs := [3]) (by kernel_rfl) (by simp) ?_
  refine (AllReadyH.cons (o := _) rfl (fun K hK => ?_) AllReadyH.nil)
  go_simp
  go_at_call 23
  refine (Sub_any T2.ht (by decide) (by decide)).mono ?_
  rintro e W3 ⟨r, rfl, hr, hb3⟩
  obtain rfl : r = true := hr.2 sub6a
  have T3 := T2.next hb3
  clear hr
  try go_wp2_with fail
  refine hK.out _ _ T3 (fun hS3 => ?_)
  clear hK K
  try simp only [pu0, puN, pu1, pu2, pu3]
  refine wpAnyH_take (i := 4) (oi := _) (v := ?v2) rfl (by kernel_rfl) (by kernel_rfl) (by kernel_rfl) (fun _ _ _ h => h) (Or.inl ⟨by rfl, ?hy2⟩) T3 ?_
  case hy2 => (intro V hSw; go_simp; try with_reducible rfl)
  try simp only [pu0, puN, pu1, pu2, pu3]
  refine wpAnyH_take (i := 5) (oi := _) (v := ?v3) rfl (by kernel_rfl) (by kernel_rfl) (by kernel_rfl) (fun _ _ _ h => h) (Or.inl ⟨by rfl, ?hy3⟩) T3 ?_
  case hy3 => (intro V hSw; go_simp; try with_reducible rfl)
  try simp only [pu0, puN, pu1, pu2, pu3]
  refine wpAnyH_ready (rs := [6]) (by kernel_rfl) (by simp) ?_
  refine (AllReadyH.cons (o := _) rfl (fun K hK => ?_) AllReadyH.nil)
  go_simp
  go_at_call 32
  refine (class_any _ _).mono ?_
  rintro e W4 ⟨rfl, hb4⟩
  have T4 := T3.next hb4
  try go_wp2_with fail
  refine hK.out _ _ T4 (fun hS4 => ?_)
  clear hK K
  try simp only [pu0, puN, pu1, pu2, pu3]
  refine wpAnyH_ready (rs := [7]) (by kernel_rfl) (by simp) ?_
  refine (AllReadyH.cons (o := _) rfl (fun K hK => ?_) AllReadyH.nil)
  go_simp
  go_at_call 32
  refine (class_any _ _).mono ?_
  rintro e W5 ⟨rfl, hb5⟩
  have T5 := T4.next hb5
  try go_wp2_with fail
  refine hK.out _ _ T5 (fun hS5 => ?_)
  clear hK K
  try simp only [pu0, puN, pu1, pu2, pu3]
  refine wpAnyH_ready (rs := [8]) (by kernel_rfl) (by simp) ?_
  refine (AllReadyH.cons (o := _) rfl (fun K hK => ?_) AllReadyH.nil)
  go_simp
  go_at_call 23
  refine (Sub_any T5.ht (by decide) (by decide)).mono ?_
  rintro e W6 ⟨r, rfl, hr, hb6⟩
  obtain rfl : r = true := hr.2 sub6b
  have T6 := T5.next hb6
  clear hr
  try go_wp2_with fail
  refine hK.out _ _ T6 (fun hS6 => ?_)
  clear hK K
  try simp only [pu0, puN, pu1, pu2, pu3]
  refine wpAnyH_take (i := 9) (oi := _) (v := ?v4) rfl (by kernel_rfl) (by kernel_rfl) (by kernel_rfl) (fun _ _ _ h => h) (Or.inl ⟨by rfl, ?hy4⟩) T6 ?_
  case hy4 => (intro V hSw; go_simp; try with_reducible rfl)
  try simp only [pu0, puN, pu1, pu2, pu3]
  refine wpAnyH_take (i := 10) (oi := _) (v := ?v5) rfl (by kernel_rfl) (by kernel_rfl) (by kernel_rfl) (fun _ _ _ h => h) (Or.inl ⟨by rfl, ?hy5⟩) T6 ?_
  case hy5 => (intro V hSw; go_simp; try with_reducible rfl)
  try simp only [pu0, puN, pu1, pu2, pu3]
  refine wpAnyH_take (i := 11) (oi := _) (v := ?v6) rfl (by kernel_rfl) (by kernel_rfl) (by kernel_rfl) (fun _ _ _ h => h) (Or.inl ⟨by rfl, ?hy6⟩) T6 ?_
  case hy6 => (intro V hSw; go_simp; try with_reducible rfl)
  try simp only [pu0, puN, pu1, pu2, pu3]
  refine wpAnyH_ready (rs := [12]) (by kernel_rfl) (by simp) ?_
  refine (AllReadyH.cons (o := _) rfl (fun K hK => ?_) AllReadyH.nil)
  go_simp
  go_at_call 32
  refine (class_any _ _).mono ?_
  rintro e W7 ⟨rfl, hb7⟩
  have T7 := T6.next hb7
  try go_wp2_with fail
  refine hK.out _ _ T7 (fun hS7 => ?_)
  clear hK K
  try simp only [pu0, puN, pu1, pu2, pu3]
  refine wpAnyH_ready (rs := [13]) (by kernel_rfl) (by simp) ?_
  refine (AllReadyH.cons (o := _) rfl (fun K hK => ?_) AllReadyH.nil)
  go_simp
  go_at_call 32
  refine (class_any _ _).mono ?_
  rintro e W8 ⟨rfl, hb8⟩
  have T8 := T7.next hb8
  try go_wp2_with fail
  refine hK.out _ _ T8 (fun hS8 => ?_)
  clear hK K
  try simp only [pu0, puN, pu1, pu2, pu3]
  refine wpAnyH_ready (rs := [14]) (by kernel_rfl) (by simp) ?_
  refine (AllReadyH.cons (o := _) rfl (fun K hK => ?_) AllReadyH.nil)
  go_simp
  go_at_call 23
  refine (Sub_any T8.ht (by decide) (by decide)).mono ?_
  rintro e W9 ⟨r, rfl, hr, hb9⟩
  obtain rfl : r = false := Bool.eq_false_iff.2 fun h => sub6c (hr.1 h)
  have T9 := T8.next hb9
  clear hr
  try go_wp2_with fail
  refine hK.out _ _ T9 (fun hS9 => ?_)
  clear hK K
  try simp only [pu0, puN, pu1, pu2, pu3]
  refine wpAnyH_take (i := 15) (oi := _) (v := ?v7) rfl (by kernel_rfl) (by kernel_rfl) (by kernel_rfl) (fun _ _ _ h => h) (Or.inl ⟨by rfl, ?hy7⟩) T9 ?_
  case hy7 => (intro V hSw; go_simp; try with_reducible rfl)
  try simp only [pu0, puN, pu1, pu2, pu3]
  refine wpAnyH_take (i := 16) (oi := _) (v := ?v8) rfl (by kernel_rfl) (by kernel_rfl) (by kernel_rfl) (fun _ _ _ h => h) (Or.inl ⟨by rfl, ?hy8⟩) T9 ?_
  case hy8 => (intro V hSw; go_simp; try with_reducible rfl)
  try simp only [pu0, puN, pu1, pu2, pu3]
  refine wpAnyH_take (i := 17) (oi := _) (v := ?v9) rfl (by kernel_rfl) (by kernel_rfl) (by kernel_rfl) (fun _ _ _ h => h) (Or.inl ⟨by rfl, ?hy9⟩) T9 ?_
  case hy9 => (intro V hSw; go_simp; try with_reducible rfl)
  try simp only [pu0, puN, pu1, pu2, pu3]
  refine wpAnyH_take (i := 18) (oi := _) (v := ?v10) rfl (by kernel_rfl) (by kernel_rfl) (by kernel_rfl) (fun _ _ _ h => h) (Or.inl ⟨by rfl, ?hy10⟩) T9 ?_
  case hy10 => (intro V hSw; go_simp; try with_reducible rfl)
  try simp only [pu0, puN, pu1, pu2, pu3]
  refine wpAnyH_take (i := 19) (oi := _) (v := ?v11) rfl (by kernel_rfl) (by kernel_rfl) (by kernel_rfl) (fun _ _ _ h => h) (Or.inl ⟨by rfl, ?hy11⟩) T9 ?_
  case hy11 => (intro V hSw; have e0 := kcells_of hSw.b 0; have e1 := kcells_of hSw.b 1; go_simp; try with_reducible rfl)
  try simp only [pu0, puN, pu1, pu2, pu3]
  refine wpAnyH_take (i := 20) (oi := _) (v := ?v12) rfl (by kernel_rfl) (by kernel_rfl) (by kernel_rfl) (fun _ _ _ h => h) (Or.inl ⟨by rfl, ?hy12⟩) T9 ?_
  case hy12 => (intro V hSw; have e0 := kcells_of hSw.a 0; have e1 := kcells_of hSw.a 1; go_simp; try with_reducible rfl)
  try simp only [pu0, puN, pu1, pu2, pu3]
  refine wpAnyH_ready (rs := [21]) (by kernel_rfl) (by simp) ?_
  refine (AllReadyH.cons (o := _) rfl (fun K hK => ?_) AllReadyH.nil)
  go_simp
  go_at_call 23
  refine (Sub_any T9.ht (by decide) (by decide)).mono ?_
  rintro e W10 ⟨r, rfl, hr, hb10⟩
  obtain rfl : r = true := hr.2 sub6d
  have T10 := T9.next hb10
  clear hr
  try go_wp2_with fail
  refine hK.out _ _ T10 (fun hS10 => ?_)
  clear hK K
  try simp only [pu0, puN, pu1, pu2, pu3]
  refine wpAnyH_take (i := 22) (oi := _) (v := ?v13) rfl (by kernel_rfl) (by kernel_rfl) (by kernel_rfl) (fun _ _ _ h => h) (Or.inl ⟨by rfl, ?hy13⟩) T10 ?_
  case hy13 => (intro V hSw; go_simp; try with_reducible rfl)
  try simp only [pu0, puN, pu1, pu2, pu3]
  refine wpAnyH_take (i := 23) (oi := _) (v := ?v14) rfl (by kernel_rfl) (by kernel_rfl) (by kernel_rfl) (fun _ _ _ h => h) (Or.inl ⟨by rfl, ?hy14⟩) T10 ?_
  case hy14 => (intro V hSw; go_simp; try with_reducible rfl)
  try simp only [pu0, puN, pu1, pu2, pu3]
  refine wpAnyH_take (i := 24) (oi := _) (v := ?v15) rfl (by kernel_rfl) (by kernel_rfl) (by kernel_rfl) (fun _ _ _ h => h) (Or.inl ⟨by rfl, ?hy15⟩) T10 ?_
  case hy15 => (intro V hSw; go_simp; try with_reducible rfl)
  try simp only [pu0, puN, pu1, pu2, pu3]
  refine wpAnyH_take (i := 25) (oi := _) (v := ?v16) rfl (by kernel_rfl) (by kernel_rfl) (by kernel_rfl) (fun _ _ _ h => h) (Or.inl ⟨by rfl, ?hy16⟩) T10 ?_
  case hy16 => (intro V hSw; have e0 := kcells_of hSw.n 0; have e1 := kcells_of hSw.n 1; go_simp; try with_reducible rfl)
  try simp only [pu0, puN, pu1, pu2, pu3]
  refine wpAnyH_ready (rs := [26]) (by kernel_rfl) (by simp) ?_
  refine (AllReadyH.cons (o := _) rfl (fun K hK => ?_) AllReadyH.nil)
  go_simp
  go_at_call 32
  refine (class_any _ _).mono ?_
  rintro e W11 ⟨rfl, hb11⟩
  have T11 := T10.next hb11
  try go_wp2_with fail
  refine hK.out _ _ T11 (fun hS11 => ?_)
  clear hK K
  try simp only [pu0, puN, pu1, pu2, pu3]
  refine wpAnyH_ready (rs := [27]) (by kernel_rfl) (by simp) ?_
  refine (AllReadyH.cons (o := _) rfl (fun K hK => ?_) AllReadyH.nil)
  go_simp
  go_at_call 23
  refine (Sub_any T11.ht (by decide) (by decide)).mono ?_
  rintro e W12 ⟨r, rfl, hr, hb12⟩
  obtain rfl : r = true := hr.2 sub6e
  have T12 := T11.next hb12
  clear hr
  try go_wp2_with fail
  refine hK.out _ _ T12 (fun hS12 => ?_)
  clear hK K
  try simp only [pu0, puN, pu1, pu2, pu3]
  refine wpAnyH_take (i := 28) (oi := ({ dst := some 74, op := Op.pick (Operand.tmp 69) (Operand.tmp 73) (Operand.const (Value.bool false)), type := 4, pos := "law.go:54", after := #[{ on := 23, ground := Ground.data }, { on := 27, ground := Ground.data }], guard := none } : Oper)) (v := ?v17) rfl (by kernel_rfl) (by kernel_rfl) (by kernel_rfl) (fun _ _ _ h => h) (Or.inl ⟨by rfl, ?hy17⟩) T12 ?_
  case hy17 => (intro V hSw; go_simp; try with_reducible rfl)
  try simp only [pu0, puN, pu1, pu2, pu3]
  refine wpAnyH_take (i := 29) (oi := ({ dst := some 7, op := Op.assign (Operand.tmp 74), type := 4, pos := "law.go:54", after := #[{ on := 28, ground := Ground.data }, { on := 27, ground := Ground.chain }, { on := 0, ground := Ground.phase }, { on := 1, ground := Ground.phase }, { on := 2, ground := Ground.phase }, { on := 3, ground := Ground.phase }, { on := 4, ground := Ground.phase }, { on := 5, ground := Ground.phase }, { on := 6, ground := Ground.phase }, { on := 7, ground := Ground.phase }, { on := 8, ground := Ground.phase }, { on := 9, ground := Ground.phase }, { on := 10, ground := Ground.phase }, { on := 11, ground := Ground.phase }, { on := 12, ground := Ground.phase }, { on := 13, ground := Ground.phase }, { on := 14, ground := Ground.phase }, { on := 15, ground := Ground.phase }, { on := 16, ground := Ground.phase }, { on := 17, ground := Ground.phase }, { on := 18, ground := Ground.phase }, { on := 19, ground := Ground.phase }, { on := 20, ground := Ground.phase }, { on := 21, ground := Ground.phase }, { on := 22, ground := Ground.phase }, { on := 23, ground := Ground.phase }, { on := 24, ground := Ground.phase }, { on := 25, ground := Ground.phase }, { on := 26, ground := Ground.phase }, { on := 27, ground := Ground.phase }, { on := 28, ground := Ground.phase }], guard := none } : Oper)) (v := ?v18) rfl (by kernel_rfl) (by kernel_rfl) (by kernel_rfl) (fun _ _ _ h => h) (Or.inl ⟨by rfl, ?hy18⟩) T12 ?_
  case hy18 => (intro V hSw; go_simp; try with_reducible rfl)
  try simp only [pu0, puN, pu1, pu2, pu3]
  refine wpAnyH_done (by kernel_rfl) ?_ _
  try go_wp2
  go_meet
  case rel => exact ⟨rfl, T12⟩
 obtain ⟨rfl, hsh⟩ := hcut
 have SY := Lib.hid hsh
 clear hsh SX
 have LA := Lib.hid (show ∀ (W : World), HT B6 nb mb A cap builtP.length cs6 cl sl S W → Calls Tryz.prog 21 #[.pointer (some ⟨nb, 0, none⟩), .agg #[.int .i64 0, .string ⟨#[66]⟩], .agg #[.int .i64 0, .string ⟨#[65]⟩]] W fun e w' => e = .returned (.tuple #[.agg #[.int .i64 0, .string ⟨#[65]⟩], .bool true]) ∧ Below W.heap.size W w' from fun W h => (Lub_any h (by decide) (by decide)).mono fun e w' hl => lub_res hl (ok6 (by decide +kernel) (by decide +kernel) (by decide) (by decide)) lub6a)
 have LB := Lib.hid (show ∀ (W : World), HT B6 nb mb A cap builtP.length cs6 cl sl S W → Calls Tryz.prog 21 #[.pointer (some ⟨nb, 0, none⟩), .agg #[.int .i64 0, .string ⟨#[65]⟩], .agg #[.int .i64 0, .string ⟨#[83, 116, 114, 105, 110, 103]⟩]] W fun e w' => e = .returned (.tuple #[.agg #[.int .i64 0, .string ⟨#[79, 98, 106, 101, 99, 116]⟩], .bool true]) ∧ Below W.heap.size W w' from fun W h => (Lub_any h (by decide) (by decide)).mono fun e w' hl => lub_res hl (ok6 (by decide +kernel) (by decide +kernel) (by decide) (by decide)) lub6b)
 have LC := Lib.hid (show ∀ (W : World), HT B6 nb mb A cap builtP.length cs6 cl sl S W → Calls Tryz.prog 21 #[.pointer (some ⟨nb, 0, none⟩), .agg #[.int .i64 1, .string ⟨#[66]⟩], .agg #[.int .i64 1, .string ⟨#[65]⟩]] W fun e w' => e = .returned (.tuple #[.agg #[.int .i64 1, .string ⟨#[65]⟩], .bool true]) ∧ Below W.heap.size W w' from fun W h => (Lub_any h (by decide) (by decide)).mono fun e w' hl => lub_res hl (ok6 (by decide +kernel) (by decide +kernel) (by decide) (by decide)) lub6c)
 have LD := Lib.hid (show ∀ (W : World), HT B6 nb mb A cap builtP.length cs6 cl sl S W → Calls Tryz.prog 21 #[.pointer (some ⟨nb, 0, none⟩), .agg #[.int .i64 1, .string ⟨#[]⟩], .agg #[.int .i64 1, .string ⟨#[65]⟩]] W fun e w' => e = .returned (.tuple #[.agg #[.int .i64 0, .string ⟨#[79, 98, 106, 101, 99, 116]⟩], .bool true]) ∧ Below W.heap.size W w' from fun W h => (Lub_any h (by decide) (by decide)).mono fun e w' hl => lub_res hl (ok6 (by decide +kernel) (by decide +kernel) (by decide) (by decide)) lub6d)
 obtain ⟨u8, hu⟩ : ∃ x, x = wc := ⟨_, rfl⟩
 subst hu
 go_upto_region 8 with fail
 go_cut [8, 9] (fun va vb wx => ∃ x, va = .pointer (some ⟨x, 0, none⟩) ∧ vb = .bool true ∧ Below u8.heap.size u8 wx ∧ wx.heap[x]? = some (.cells #[.int .i64 0, .string ⟨#[65]⟩] 31 (0, 0)))
 case first => as_aux_lemma =>
  go_wp2_with fail
  refine (class_any _ _).mono ?_
  rintro e V1 ⟨rfl, hb1⟩
  have S1 := SY.out.next hb1
  go_wp2_with fail
  refine (class_any _ _).mono ?_
  rintro e V2 ⟨rfl, hb2⟩
  have S2 := S1.next hb2
  go_wp2_with fail
  refine (LA.out _ S2.ht).mono ?_
  rintro e V9 ⟨rfl, hb9⟩
  have BB := Lib.hid ((hb1.trans ((hb2.trans (hb9.mono hb2.size)).mono hb1.size)).alloc (hb1.trans ((hb2.trans (hb9.mono hb2.size)).mono hb1.size)).size (.cells #[.int .i64 0, .string ⟨#[65]⟩] 31))
  go_wp2
  go_meet
  case rel => exact ⟨_, rfl, rfl, BB.out, hheap_new _ _⟩
 obtain ⟨x8, rfl, rfl, hb9, h8⟩ := hcut
 have SY8 := Lib.hid (SY.out.next hb9)
 clear hb9
 obtain ⟨u9, hu⟩ : ∃ x, x = wc := ⟨_, rfl⟩
 subst hu
 go_upto_region 9 with fail
 go_cut [10, 11] (fun va vb wx => ∃ x, va = .pointer (some ⟨x, 0, none⟩) ∧ vb = .bool true ∧ Below u9.heap.size u9 wx ∧ wx.heap[x]? = some (.cells #[.int .i64 0, .string ⟨#[79, 98, 106, 101, 99, 116]⟩] 31 (0, 0)))
 case first => as_aux_lemma =>
  go_wp2_with fail
  refine (class_any _ _).mono ?_
  rintro e V1 ⟨rfl, hb1⟩
  have S1 := SY8.out.next hb1
  go_wp2_with fail
  refine (class_any _ _).mono ?_
  rintro e V2 ⟨rfl, hb2⟩
  have S2 := S1.next hb2
  go_wp2_with fail
  refine (LB.out _ S2.ht).mono ?_
  rintro e V9 ⟨rfl, hb9⟩
  have BB := Lib.hid ((hb1.trans ((hb2.trans (hb9.mono hb2.size)).mono hb1.size)).alloc (hb1.trans ((hb2.trans (hb9.mono hb2.size)).mono hb1.size)).size (.cells #[.int .i64 0, .string ⟨#[79, 98, 106, 101, 99, 116]⟩] 31))
  go_wp2
  go_meet
  case rel => exact ⟨_, rfl, rfl, BB.out, hheap_new _ _⟩
 obtain ⟨x10, rfl, rfl, hb9, h10⟩ := hcut
 have SY9 := Lib.hid (SY8.out.next hb9)
 replace h8 := (hb9.block _ (lt_of_block h8)).trans h8
 clear hb9
 obtain ⟨u10, hu⟩ : ∃ x, x = wc := ⟨_, rfl⟩
 subst hu
 go_upto_region 10 with fail
 go_cut [12, 13] (fun va vb wx => ∃ x, va = .pointer (some ⟨x, 0, none⟩) ∧ vb = .bool true ∧ Below u10.heap.size u10 wx ∧ wx.heap[x]? = some (.cells #[.int .i64 1, .string ⟨#[65]⟩] 31 (0, 0)))
 case first => as_aux_lemma =>
  have e0 := kcells_of SY9.out.b 0
  have e1 := kcells_of SY9.out.b 1
  have e2 := kcells_of SY9.out.a 0
  have e3 := kcells_of SY9.out.a 1
  go_wp2_with fail
  refine (LC.out _ SY9.out.ht).mono ?_
  rintro e V9 ⟨rfl, hb9⟩
  have BB := Lib.hid ((hb9).alloc (hb9).size (.cells #[.int .i64 1, .string ⟨#[65]⟩] 31))
  go_wp2
  go_meet
  case rel => exact ⟨_, rfl, rfl, BB.out, hheap_new _ _⟩
 obtain ⟨x12, rfl, rfl, hb9, h12⟩ := hcut
 have SY10 := Lib.hid (SY9.out.next hb9)
 replace h8 := (hb9.block _ (lt_of_block h8)).trans h8
 replace h10 := (hb9.block _ (lt_of_block h10)).trans h10
 clear hb9
 obtain ⟨u11, hu⟩ : ∃ x, x = wc := ⟨_, rfl⟩
 subst hu
 go_upto_region 11 with fail
 go_cut [14, 15] (fun va vb wx => ∃ x, va = .pointer (some ⟨x, 0, none⟩) ∧ vb = .bool true ∧ Below u11.heap.size u11 wx ∧ wx.heap[x]? = some (.cells #[.int .i64 0, .string ⟨#[79, 98, 106, 101, 99, 116]⟩] 31 (0, 0)))
 case first => as_aux_lemma =>
  have e0 := kcells_of SY10.out.n 0
  have e1 := kcells_of SY10.out.n 1
  have e2 := kcells_of SY10.out.a 0
  have e3 := kcells_of SY10.out.a 1
  go_wp2_with fail
  refine (LD.out _ SY10.out.ht).mono ?_
  rintro e V9 ⟨rfl, hb9⟩
  have BB := Lib.hid ((hb9).alloc (hb9).size (.cells #[.int .i64 0, .string ⟨#[79, 98, 106, 101, 99, 116]⟩] 31))
  go_wp2
  go_meet
  case rel => exact ⟨_, rfl, rfl, BB.out, hheap_new _ _⟩
 obtain ⟨x14, rfl, rfl, hb9, h14⟩ := hcut
 have SY11 := Lib.hid (SY10.out.next hb9)
 replace h8 := (hb9.block _ (lt_of_block h8)).trans h8
 replace h10 := (hb9.block _ (lt_of_block h10)).trans h10
 replace h12 := (hb9.block _ (lt_of_block h12)).trans h12
 clear hb9
 obtain ⟨u12, hu⟩ : ∃ x, x = wc := ⟨_, rfl⟩
 subst hu
 go_upto_region 12 with fail
 go_cut [16] (fun v wx => v = .bool true ∧ Below u12.heap.size u12 wx)
 case first => as_aux_lemma =>
  go_wp2_with fail
  refine (Chain_any SY11.out.ht ⟨#[66]⟩ (by decide)).mono ?_
  rintro e V1 ⟨v, l, rfl, hl, _, own, hb1⟩
  have hl := hl 15 (by decide +kernel)
  obtain rfl : l = [15, 14, 0] := Ch.unique hl chain6
  obtain ⟨ca, cc, rfl⟩ := own.form
  have OW := Lib.hid own
  have HB1 := Lib.hid hb1
  clear own hb1 hl
  go_wp2_with fail
  have R2 := str_row V1 [⟨#[66]⟩, ⟨#[65]⟩, ⟨#[79, 98, 106, 101, 99, 116]⟩] (by decide)
  have ba := (Below.refl V1.heap.size V1).alloc (Nat.le_refl _) (.cells (scells [⟨#[66]⟩, ⟨#[65]⟩, ⟨#[79, 98, 106, 101, 99, 116]⟩]).toArray 9)
  refine (sameTexts_any _ (nms cs6 [15, 14, 0]) (nms cs6 [15, 14, 0]) _ _ _ ((OW.out.below ba).row) ⟨[⟨#[66]⟩, ⟨#[65]⟩, ⟨#[79, 98, 106, 101, 99, 116]⟩], by decide +kernel, by decide, R2⟩ (Nat.le_refl _)).mono ?_
  rintro e V2 ⟨rfl, hd⟩
  have BB := Lib.hid (HB1.out.trans ((ba.trans (hd.below.mono ba.size)).mono HB1.out.size))
  rw [decide_eq_true rfl]
  clear R2 ba hd
  go_wp2
  go_meet
  case rel => exact ⟨rfl, BB.out⟩
 obtain ⟨rfl, hb9⟩ := hcut
 have SY12 := Lib.hid (SY11.out.next hb9)
 replace h8 := (hb9.block _ (lt_of_block h8)).trans h8
 replace h10 := (hb9.block _ (lt_of_block h10)).trans h10
 replace h12 := (hb9.block _ (lt_of_block h12)).trans h12
 replace h14 := (hb9.block _ (lt_of_block h14)).trans h14
 clear hb9
 obtain ⟨u13, hu⟩ : ∃ x, x = wc := ⟨_, rfl⟩
 subst hu
 go_upto_region 13 with fail
 go_cut [17, 18, 19] (fun va vb vc wx => va = .pointer none ∧ vb = .int .i64 16 ∧ vc = .int .i64 0 ∧ Below u13.heap.size u13 wx)
 case first =>
  go_wp2_with fail
  refine (file_any 0 ⟨#[65]⟩ ⟨#[66]⟩ [] (.slice none 0 0) u13 (B := u13.heap.size) Row.nil (Nat.le_refl _) (by simp)).mono ?_
  rintro e V1 ⟨vp1, vi1, rfl, p1, q1, b1⟩
  have F1 := FileV.of (fl := 0) p1 q1
  have BL1 := b1
  clear p1 q1 b1
  go_wp2_with fail
  refine (file_any 0 ⟨#[66]⟩ ⟨#[65]⟩ [] (.slice none 0 0) V1 (B := V1.heap.size) Row.nil (Nat.le_refl _) (by simp)).mono ?_
  rintro e V2 ⟨vp2, vi2, rfl, p2, q2, b2⟩
  have F2 := FileV.of (fl := 0) p2 q2
  replace F1 := F1.next b2
  have BL2 := BL1.trans (b2.mono BL1.size)
  clear p2 q2 b2
  go_wp2_with fail
  have hr := lit_row (w := V2) flR' [.agg #[vp1, .int .i64 0, .int .i64 2, .int .i64 4, vi1, .slice none 0 0, .slice none 0 0], .agg #[vp2, .int .i64 0, .int .i64 2, .int .i64 4, vi2, .slice none 0 0, .slice none 0 0]] rfl (fun i f x hi hx => by
   match i with
   | 0 => cases hi; cases hx; exact F1
   | 1 => cases hi; cases hx; exact F2
   | i + 2 => cases hi) (by decide)
  have b4 := BL2.alloc BL2.size (.cells #[vp1, .int .i64 0, .int .i64 2, .int .i64 4, vi1, .slice none 0 0, .slice none 0 0, vp2, .int .i64 0, .int .i64 2, .int .i64 4, vi2, .slice none 0 0, .slice none 0 0] 94)
  refine (New_no (HN.out.below (SY12.out.below.trans (b4.mono SY12.out.ge0))) _ hr (Nat.le_refl _) textsR fcsR openR).mono ?_
  rintro e V5 ⟨rfl, b5⟩
  have BB := Lib.hid (b4.trans (b5.mono b4.size))
  clear hr b4 b5 F1 BL1 F2 BL2
  go_wp2
  go_meet
  case rel => exact ⟨rfl, rfl, rfl, BB.out⟩
 obtain ⟨rfl, rfl, rfl, hb9⟩ := hcut
 have SY13 := Lib.hid (SY12.out.next hb9)
 replace h8 := (hb9.block _ (lt_of_block h8)).trans h8
 replace h10 := (hb9.block _ (lt_of_block h10)).trans h10
 replace h12 := (hb9.block _ (lt_of_block h12)).trans h12
 replace h14 := (hb9.block _ (lt_of_block h14)).trans h14
 clear hb9
 obtain ⟨u14, hu⟩ : ∃ x, x = wc := ⟨_, rfl⟩
 subst hu
 go_upto_region 14 with fail
 go_cut [20, 21, 22] (fun va vb vc wx => va = .pointer none ∧ vb = .int .i64 17 ∧ vc = .int .i64 0 ∧ Below u14.heap.size u14 wx)
 case first =>
  go_wp2_with fail
  refine (file_any 0 ⟨#[65]⟩ ⟨#[83, 116, 114, 105, 110, 103]⟩ [] (.slice none 0 0) u14 (B := u14.heap.size) Row.nil (Nat.le_refl _) (by simp)).mono ?_
  rintro e V1 ⟨vp1, vi1, rfl, p1, q1, b1⟩
  have F1 := FileV.of (fl := 0) p1 q1
  have BL1 := b1
  clear p1 q1 b1
  go_wp2_with fail
  have hr := lit_row (w := V1) flK [.agg #[vp1, .int .i64 0, .int .i64 2, .int .i64 4, vi1, .slice none 0 0, .slice none 0 0]] rfl (fun i f x hi hx => by
   match i with
   | 0 => cases hi; cases hx; exact F1
   | i + 1 => cases hi) (by decide)
  have b4 := BL1.alloc BL1.size (.cells #[vp1, .int .i64 0, .int .i64 2, .int .i64 4, vi1, .slice none 0 0, .slice none 0 0] 94)
  refine (New_no (HN.out.below (SY13.out.below.trans (b4.mono SY13.out.ge0))) _ hr (Nat.le_refl _) textsK fcsK openK).mono ?_
  rintro e V5 ⟨rfl, b5⟩
  have BB := Lib.hid (b4.trans (b5.mono b4.size))
  clear hr b4 b5 F1 BL1
  go_wp2
  go_meet
  case rel => exact ⟨rfl, rfl, rfl, BB.out⟩
 obtain ⟨rfl, rfl, rfl, hb9⟩ := hcut
 have SY14 := Lib.hid (SY13.out.next hb9)
 replace h8 := (hb9.block _ (lt_of_block h8)).trans h8
 replace h10 := (hb9.block _ (lt_of_block h10)).trans h10
 replace h12 := (hb9.block _ (lt_of_block h12)).trans h12
 replace h14 := (hb9.block _ (lt_of_block h14)).trans h14
 clear hb9
 obtain ⟨u15, hu⟩ : ∃ x, x = wc := ⟨_, rfl⟩
 subst hu
 go_upto_region 15 with fail
 go_cut [23, 24, 25] (fun va vb vc wx => va = .pointer none ∧ vb = .int .i64 15 ∧ vc = .int .i64 1 ∧ Below u15.heap.size u15 wx)
 case first =>
  go_wp2_with fail
  refine (file_any 0 ⟨#[65]⟩ ⟨#[79, 98, 106, 101, 99, 116]⟩ [] (.slice none 0 0) u15 (B := u15.heap.size) Row.nil (Nat.le_refl _) (by simp)).mono ?_
  rintro e V1 ⟨vp1, vi1, rfl, p1, q1, b1⟩
  have F1 := FileV.of (fl := 0) p1 q1
  have BL1 := b1
  clear p1 q1 b1
  go_wp2_with fail
  refine (file_any 0 ⟨#[65]⟩ ⟨#[79, 98, 106, 101, 99, 116]⟩ [] (.slice none 0 0) V1 (B := V1.heap.size) Row.nil (Nat.le_refl _) (by simp)).mono ?_
  rintro e V2 ⟨vp2, vi2, rfl, p2, q2, b2⟩
  have F2 := FileV.of (fl := 0) p2 q2
  replace F1 := F1.next b2
  have BL2 := BL1.trans (b2.mono BL1.size)
  clear p2 q2 b2
  go_wp2_with fail
  have hr := lit_row (w := V2) flT [.agg #[vp1, .int .i64 0, .int .i64 2, .int .i64 4, vi1, .slice none 0 0, .slice none 0 0], .agg #[vp2, .int .i64 0, .int .i64 2, .int .i64 4, vi2, .slice none 0 0, .slice none 0 0]] rfl (fun i f x hi hx => by
   match i with
   | 0 => cases hi; cases hx; exact F1
   | 1 => cases hi; cases hx; exact F2
   | i + 2 => cases hi) (by decide)
  have b4 := BL2.alloc BL2.size (.cells #[vp1, .int .i64 0, .int .i64 2, .int .i64 4, vi1, .slice none 0 0, .slice none 0 0, vp2, .int .i64 0, .int .i64 2, .int .i64 4, vi2, .slice none 0 0, .slice none 0 0] 94)
  refine (New_no (HN.out.below (SY14.out.below.trans (b4.mono SY14.out.ge0))) _ hr (Nat.le_refl _) textsT fcsT openT).mono ?_
  rintro e V5 ⟨rfl, b5⟩
  have BB := Lib.hid (b4.trans (b5.mono b4.size))
  clear hr b4 b5 F1 BL1 F2 BL2
  go_wp2
  go_meet
  case rel => exact ⟨rfl, rfl, rfl, BB.out⟩
 obtain ⟨rfl, rfl, rfl, hb9⟩ := hcut
 have SY15 := Lib.hid (SY14.out.next hb9)
 replace h8 := (hb9.block _ (lt_of_block h8)).trans h8
 replace h10 := (hb9.block _ (lt_of_block h10)).trans h10
 replace h12 := (hb9.block _ (lt_of_block h12)).trans h12
 replace h14 := (hb9.block _ (lt_of_block h14)).trans h14
 clear hb9
 obtain ⟨u16, hu⟩ : ∃ x, x = wc := ⟨_, rfl⟩
 subst hu
 have h4 := SY15.out.a
 have q1 : ∀ V : World, (binOp .eql 31 (.agg #[.int .i64 0, .string ⟨#[65]⟩]) (.agg #[.int .i64 0, .string ⟨#[65]⟩])).run Tryz.prog V = .ok (.bool true) V := fun V => (eql31 0 0 ⟨#[65]⟩ ⟨#[65]⟩ V).trans (by rw [decide_eq_true ⟨rfl, rfl⟩])
 have q2 : ∀ V : World, (binOp .eql 31 (.agg #[.int .i64 0, .string ⟨#[79, 98, 106, 101, 99, 116]⟩]) (.agg #[.int .i64 0, .string ⟨#[79, 98, 106, 101, 99, 116]⟩])).run Tryz.prog V = .ok (.bool true) V := fun V => (eql31 0 0 ⟨#[79, 98, 106, 101, 99, 116]⟩ ⟨#[79, 98, 106, 101, 99, 116]⟩ V).trans (by rw [decide_eq_true ⟨rfl, rfl⟩])
 have q3 : ∀ V : World, (binOp .eql 31 (.agg #[.int .i64 1, .string ⟨#[65]⟩]) (.agg #[.int .i64 1, .string ⟨#[65]⟩])).run Tryz.prog V = .ok (.bool true) V := fun V => (eql31 1 1 ⟨#[65]⟩ ⟨#[65]⟩ V).trans (by rw [decide_eq_true ⟨rfl, rfl⟩])
 go_upto_region 16 with fail
 go_cut [26] (fun v wx => v = .bool true ∧ Below u16.heap.size u16 wx)
 case first => as_aux_lemma =>
  have T0 := (Below.refl u16.heap.size u16).drew
  refine wp_region_held_drew (S := fun V => Below u16.heap.size u16 V) (by kernel_rfl) T0 (fun hS0 => ?_)
  refine wpAnyH_take (i := 0) (oi := ({ dst := some 130, op := Op.load 31 (Operand.tmp 8), type := 31, pos := "law.go:63", after := #[], guard := none } : Oper)) (v := ?av1) rfl (by kernel_rfl) (by kernel_rfl) (by kernel_rfl) (fun _ _ _ h => h) (Or.inl ⟨by rfl, ?ay1⟩) T0 ?_
  case ay1 => (intro V hSw; have e0 := kcells_of ((hSw.block _ (lt_of_block h8)).trans h8) 0; have e1 := kcells_of ((hSw.block _ (lt_of_block h8)).trans h8) 1; go_simp; try with_reducible rfl)
  try simp only [pu0, puN, pu1, pu2, pu3]
  refine wpAnyH_ready (rs := [1]) (by kernel_rfl) (by simp) ?_
  refine (AllReadyH.cons (o := _) rfl (fun K hK => ?_) AllReadyH.nil)
  go_simp
  go_at_call 32
  refine (class_any _ _).mono ?_
  rintro e W2 ⟨rfl, hb2⟩
  have T2 := T0.trans (hb2.mono T0.size)
  try go_wp2_with fail
  refine hK.out _ _ T2 (fun hS2 => ?_)
  clear hK K
  try simp only [pu0, puN, pu1, pu2, pu3]
  refine wpAnyH_take (i := 2) (oi := ({ dst := some 132, op := Op.binOp BinOp.eql 31 (Operand.tmp 130) (Operand.tmp 131) 31, type := 4, pos := "law.go:63", after := #[{ on := 0, ground := Ground.data }, { on := 1, ground := Ground.data }], guard := none } : Oper)) (v := ?av3) rfl (by kernel_rfl) (by kernel_rfl) (by kernel_rfl) (fun _ _ _ h => h) (Or.inl ⟨by rfl, ?ay3⟩) T2 ?_
  case ay3 => (intro V hSw; go_simp; try with_reducible rfl)
  try simp only [pu0, puN, pu1, pu2, pu3]
  refine wpAnyH_take (i := 3) (oi := ({ dst := some 133, op := Op.move (Operand.tmp 132), type := 4, pos := "law.go:63", after := #[{ on := 2, ground := Ground.data }, { on := 1, ground := Ground.chain }], guard := none } : Oper)) (v := ?av4) rfl (by kernel_rfl) (by kernel_rfl) (by kernel_rfl) (fun _ _ _ h => h) (Or.inl ⟨by rfl, ?ay4⟩) T2 ?_
  case ay4 => (intro V hSw; go_simp; try with_reducible rfl)
  try simp only [pu0, puN, pu1, pu2, pu3]
  refine wpAnyH_take (i := 4) (oi := ({ dst := some 134, op := Op.load 31 (Operand.tmp 10), type := 31, pos := "law.go:63", after := #[{ on := 3, ground := Ground.guard }], guard := some (3, true) } : Oper)) (v := ?av5) rfl (by kernel_rfl) (by kernel_rfl) (by kernel_rfl) (fun _ _ _ h => h) (Or.inl ⟨by rfl, ?ay5⟩) T2 ?_
  case ay5 => (intro V hSw; have e0 := kcells_of ((hSw.block _ (lt_of_block h10)).trans h10) 0; have e1 := kcells_of ((hSw.block _ (lt_of_block h10)).trans h10) 1; go_simp; try with_reducible rfl)
  try simp only [pu0, puN, pu1, pu2, pu3]
  refine wpAnyH_ready (rs := [5]) (by kernel_rfl) (by simp) ?_
  refine (AllReadyH.cons (o := _) rfl (fun K hK => ?_) AllReadyH.nil)
  go_simp
  go_at_call 32
  refine (class_any _ _).mono ?_
  rintro e W6 ⟨rfl, hb6⟩
  have T6 := T2.trans (hb6.mono T2.size)
  try go_wp2_with fail
  refine hK.out _ _ T6 (fun hS6 => ?_)
  clear hK K
  try simp only [pu0, puN, pu1, pu2, pu3]
  refine wpAnyH_take (i := 6) (oi := ({ dst := some 136, op := Op.binOp BinOp.eql 31 (Operand.tmp 134) (Operand.tmp 135) 31, type := 4, pos := "law.go:63", after := #[{ on := 4, ground := Ground.data }, { on := 5, ground := Ground.data }, { on := 3, ground := Ground.guard }], guard := some (3, true) } : Oper)) (v := ?av7) rfl (by kernel_rfl) (by kernel_rfl) (by kernel_rfl) (fun _ _ _ h => h) (Or.inl ⟨by rfl, ?ay7⟩) T6 ?_
  case ay7 => (intro V hSw; go_simp; try with_reducible rfl)
  try simp only [pu0, puN, pu1, pu2, pu3]
  refine wpAnyH_take (i := 7) (oi := ({ dst := some 137, op := Op.pick (Operand.tmp 133) (Operand.tmp 136) (Operand.const (Value.bool false)), type := 4, pos := "law.go:63", after := #[{ on := 3, ground := Ground.data }, { on := 6, ground := Ground.data }], guard := none } : Oper)) (v := ?av8) rfl (by kernel_rfl) (by kernel_rfl) (by kernel_rfl) (fun _ _ _ h => h) (Or.inl ⟨by rfl, ?ay8⟩) T6 ?_
  case ay8 => (intro V hSw; go_simp; try with_reducible rfl)
  try simp only [pu0, puN, pu1, pu2, pu3]
  refine wpAnyH_take (i := 8) (oi := ({ dst := some 138, op := Op.move (Operand.tmp 137), type := 4, pos := "law.go:63", after := #[{ on := 7, ground := Ground.data }, { on := 5, ground := Ground.chain }], guard := none } : Oper)) (v := ?av9) rfl (by kernel_rfl) (by kernel_rfl) (by kernel_rfl) (fun _ _ _ h => h) (Or.inl ⟨by rfl, ?ay9⟩) T6 ?_
  case ay9 => (intro V hSw; go_simp; try with_reducible rfl)
  try simp only [pu0, puN, pu1, pu2, pu3]
  refine wpAnyH_take (i := 9) (oi := ({ dst := some 139, op := Op.load 31 (Operand.tmp 12), type := 31, pos := "law.go:63", after := #[{ on := 8, ground := Ground.guard }], guard := some (8, true) } : Oper)) (v := ?av10) rfl (by kernel_rfl) (by kernel_rfl) (by kernel_rfl) (fun _ _ _ h => h) (Or.inl ⟨by rfl, ?ay10⟩) T6 ?_
  case ay10 => (intro V hSw; have e0 := kcells_of ((hSw.block _ (lt_of_block h12)).trans h12) 0; have e1 := kcells_of ((hSw.block _ (lt_of_block h12)).trans h12) 1; go_simp; try with_reducible rfl)
  try simp only [pu0, puN, pu1, pu2, pu3]
  refine wpAnyH_take (i := 10) (oi := ({ dst := some 140, op := Op.load 31 (Operand.tmp 4), type := 31, pos := "law.go:63", after := #[{ on := 8, ground := Ground.guard }], guard := some (8, true) } : Oper)) (v := ?av11) rfl (by kernel_rfl) (by kernel_rfl) (by kernel_rfl) (fun _ _ _ h => h) (Or.inl ⟨by rfl, ?ay11⟩) T6 ?_
  case ay11 => (intro V hSw; have e0 := kcells_of ((hSw.block _ (lt_of_block h4)).trans h4) 0; have e1 := kcells_of ((hSw.block _ (lt_of_block h4)).trans h4) 1; go_simp; try with_reducible rfl)
  try simp only [pu0, puN, pu1, pu2, pu3]
  refine wpAnyH_take (i := 11) (oi := ({ dst := some 141, op := Op.binOp BinOp.eql 31 (Operand.tmp 139) (Operand.tmp 140) 31, type := 4, pos := "law.go:63", after := #[{ on := 9, ground := Ground.data }, { on := 10, ground := Ground.data }, { on := 8, ground := Ground.guard }], guard := some (8, true) } : Oper)) (v := ?av12) rfl (by kernel_rfl) (by kernel_rfl) (by kernel_rfl) (fun _ _ _ h => h) (Or.inl ⟨by rfl, ?ay12⟩) T6 ?_
  case ay12 => (intro V hSw; go_simp; try with_reducible rfl)
  try simp only [pu0, puN, pu1, pu2, pu3]
  refine wpAnyH_take (i := 12) (oi := ({ dst := some 142, op := Op.pick (Operand.tmp 138) (Operand.tmp 141) (Operand.const (Value.bool false)), type := 4, pos := "law.go:63", after := #[{ on := 8, ground := Ground.data }, { on := 11, ground := Ground.data }], guard := none } : Oper)) (v := ?av13) rfl (by kernel_rfl) (by kernel_rfl) (by kernel_rfl) (fun _ _ _ h => h) (Or.inl ⟨by rfl, ?ay13⟩) T6 ?_
  case ay13 => (intro V hSw; go_simp; try with_reducible rfl)
  try simp only [pu0, puN, pu1, pu2, pu3]
  refine wpAnyH_take (i := 13) (oi := ({ dst := some 143, op := Op.move (Operand.tmp 142), type := 4, pos := "law.go:63", after := #[{ on := 12, ground := Ground.data }, { on := 8, ground := Ground.chain }], guard := none } : Oper)) (v := ?av14) rfl (by kernel_rfl) (by kernel_rfl) (by kernel_rfl) (fun _ _ _ h => h) (Or.inl ⟨by rfl, ?ay14⟩) T6 ?_
  case ay14 => (intro V hSw; go_simp; try with_reducible rfl)
  try simp only [pu0, puN, pu1, pu2, pu3]
  refine wpAnyH_take (i := 14) (oi := ({ dst := some 144, op := Op.load 31 (Operand.tmp 14), type := 31, pos := "law.go:63", after := #[{ on := 13, ground := Ground.guard }], guard := some (13, true) } : Oper)) (v := ?av15) rfl (by kernel_rfl) (by kernel_rfl) (by kernel_rfl) (fun _ _ _ h => h) (Or.inl ⟨by rfl, ?ay15⟩) T6 ?_
  case ay15 => (intro V hSw; have e0 := kcells_of ((hSw.block _ (lt_of_block h14)).trans h14) 0; have e1 := kcells_of ((hSw.block _ (lt_of_block h14)).trans h14) 1; go_simp; try with_reducible rfl)
  try simp only [pu0, puN, pu1, pu2, pu3]
  refine wpAnyH_ready (rs := [15]) (by kernel_rfl) (by simp) ?_
  refine (AllReadyH.cons (o := _) rfl (fun K hK => ?_) AllReadyH.nil)
  go_simp
  go_at_call 32
  refine (class_any _ _).mono ?_
  rintro e W16 ⟨rfl, hb16⟩
  have T16 := T6.trans (hb16.mono T6.size)
  try go_wp2_with fail
  refine hK.out _ _ T16 (fun hS16 => ?_)
  clear hK K
  try simp only [pu0, puN, pu1, pu2, pu3]
  refine wpAnyH_take (i := 16) (oi := ({ dst := some 146, op := Op.binOp BinOp.eql 31 (Operand.tmp 144) (Operand.tmp 145) 31, type := 4, pos := "law.go:63", after := #[{ on := 14, ground := Ground.data }, { on := 15, ground := Ground.data }, { on := 13, ground := Ground.guard }], guard := some (13, true) } : Oper)) (v := ?av17) rfl (by kernel_rfl) (by kernel_rfl) (by kernel_rfl) (fun _ _ _ h => h) (Or.inl ⟨by rfl, ?ay17⟩) T16 ?_
  case ay17 => (intro V hSw; go_simp; try with_reducible rfl)
  try simp only [pu0, puN, pu1, pu2, pu3]
  refine wpAnyH_take (i := 17) (oi := ({ dst := some 147, op := Op.pick (Operand.tmp 143) (Operand.tmp 146) (Operand.const (Value.bool false)), type := 4, pos := "law.go:63", after := #[{ on := 13, ground := Ground.data }, { on := 16, ground := Ground.data }], guard := none } : Oper)) (v := ?av18) rfl (by kernel_rfl) (by kernel_rfl) (by kernel_rfl) (fun _ _ _ h => h) (Or.inl ⟨by rfl, ?ay18⟩) T16 ?_
  case ay18 => (intro V hSw; go_simp; try with_reducible rfl)
  try simp only [pu0, puN, pu1, pu2, pu3]
  refine wpAnyH_take (i := 18) (oi := ({ dst := some 148, op := Op.move (Operand.tmp 147), type := 4, pos := "law.go:63", after := #[{ on := 17, ground := Ground.data }, { on := 15, ground := Ground.chain }], guard := none } : Oper)) (v := ?av19) rfl (by kernel_rfl) (by kernel_rfl) (by kernel_rfl) (fun _ _ _ h => h) (Or.inl ⟨by rfl, ?ay19⟩) T16 ?_
  case ay19 => (intro V hSw; go_simp; try with_reducible rfl)
  try simp only [pu0, puN, pu1, pu2, pu3]
  refine wpAnyH_take (i := 19) (oi := ({ dst := some 149, op := Op.move (Operand.tmp 15), type := 4, pos := "law.go:63", after := #[{ on := 18, ground := Ground.guard }], guard := some (18, true) } : Oper)) (v := ?av20) rfl (by kernel_rfl) (by kernel_rfl) (by kernel_rfl) (fun _ _ _ h => h) (Or.inl ⟨by rfl, ?ay20⟩) T16 ?_
  case ay20 => (intro V hSw; go_simp; try with_reducible rfl)
  try simp only [pu0, puN, pu1, pu2, pu3]
  refine wpAnyH_take (i := 20) (oi := ({ dst := some 150, op := Op.pick (Operand.tmp 148) (Operand.tmp 149) (Operand.const (Value.bool false)), type := 4, pos := "law.go:63", after := #[{ on := 18, ground := Ground.data }, { on := 19, ground := Ground.data }], guard := none } : Oper)) (v := ?av21) rfl (by kernel_rfl) (by kernel_rfl) (by kernel_rfl) (fun _ _ _ h => h) (Or.inl ⟨by rfl, ?ay21⟩) T16 ?_
  case ay21 => (intro V hSw; go_simp; try with_reducible rfl)
  try simp only [pu0, puN, pu1, pu2, pu3]
  refine wpAnyH_take (i := 21) (oi := ({ dst := some 151, op := Op.move (Operand.tmp 150), type := 4, pos := "law.go:63", after := #[{ on := 20, ground := Ground.data }, { on := 18, ground := Ground.chain }], guard := none } : Oper)) (v := ?av22) rfl (by kernel_rfl) (by kernel_rfl) (by kernel_rfl) (fun _ _ _ h => h) (Or.inl ⟨by rfl, ?ay22⟩) T16 ?_
  case ay22 => (intro V hSw; go_simp; try with_reducible rfl)
  try simp only [pu0, puN, pu1, pu2, pu3]
  refine wpAnyH_take (i := 22) (oi := ({ dst := some 152, op := Op.move (Operand.tmp 16), type := 4, pos := "law.go:63", after := #[{ on := 21, ground := Ground.guard }], guard := some (21, true) } : Oper)) (v := ?av23) rfl (by kernel_rfl) (by kernel_rfl) (by kernel_rfl) (fun _ _ _ h => h) (Or.inl ⟨by rfl, ?ay23⟩) T16 ?_
  case ay23 => (intro V hSw; go_simp; try with_reducible rfl)
  try simp only [pu0, puN, pu1, pu2, pu3]
  refine wpAnyH_take (i := 23) (oi := ({ dst := some 153, op := Op.pick (Operand.tmp 151) (Operand.tmp 152) (Operand.const (Value.bool false)), type := 4, pos := "law.go:63", after := #[{ on := 21, ground := Ground.data }, { on := 22, ground := Ground.data }], guard := none } : Oper)) (v := ?av24) rfl (by kernel_rfl) (by kernel_rfl) (by kernel_rfl) (fun _ _ _ h => h) (Or.inl ⟨by rfl, ?ay24⟩) T16 ?_
  case ay24 => (intro V hSw; go_simp; try with_reducible rfl)
  try simp only [pu0, puN, pu1, pu2, pu3]
  refine wpAnyH_take (i := 24) (oi := ({ dst := some 154, op := Op.move (Operand.tmp 153), type := 4, pos := "law.go:63", after := #[{ on := 23, ground := Ground.data }, { on := 21, ground := Ground.chain }], guard := none } : Oper)) (v := ?av25) rfl (by kernel_rfl) (by kernel_rfl) (by kernel_rfl) (fun _ _ _ h => h) (Or.inl ⟨by rfl, ?ay25⟩) T16 ?_
  case ay25 => (intro V hSw; go_simp; try with_reducible rfl)
  try simp only [pu0, puN, pu1, pu2, pu3]
  refine wpAnyH_take (i := 25) (oi := ({ dst := some 155, op := Op.move (Operand.tmp 1), type := 32, pos := "law.go:63", after := #[{ on := 24, ground := Ground.guard }], guard := some (24, true) } : Oper)) (v := ?av26) rfl (by kernel_rfl) (by kernel_rfl) (by kernel_rfl) (fun _ _ _ h => h) (Or.inl ⟨by rfl, ?ay26⟩) T16 ?_
  case ay26 => (intro V hSw; go_simp; try with_reducible rfl)
  try simp only [pu0, puN, pu1, pu2, pu3]
  refine wpAnyH_ready (rs := [26]) (by kernel_rfl) (by simp) ?_
  refine (AllReadyH.cons (o := _) rfl (fun K hK => ?_) AllReadyH.nil)
  go_simp
  go_at_call 31
  refine (Chain_any (SY15.out.next T16).ht ⟨#[88]⟩ (by decide)).mono ?_
  rintro e W27 ⟨v, l, rfl, _, hl, own, hb27⟩
  obtain rfl : l = [] := hl (by decide +kernel)
  obtain ⟨ca, cc, rfl⟩ := own.form
  clear own hl
  have T27 := T16.trans (hb27.mono T16.size)
  try go_wp2_with fail
  refine hK.out _ _ T27 (fun hS27 => ?_)
  clear hK K
  try simp only [pu0, puN, pu1, pu2, pu3]
  refine wpAnyH_take (i := 27) (oi := ({ dst := some 157, op := Op.call { callee := Callee.builtin Builtin.len, args := #[Operand.tmp 156], argTypes := #[45] }, type := 3, pos := "law.go:63", after := #[{ on := 26, ground := Ground.data }, { on := 24, ground := Ground.guard }], guard := some (24, true) } : Oper)) (v := ?av28) rfl (by kernel_rfl) (by kernel_rfl) (by kernel_rfl) (fun _ _ _ h => h) (Or.inl ⟨by rfl, ?ay28⟩) T27 ?_
  case ay28 => (intro V hSw; go_simp; try with_reducible rfl)
  try simp only [pu0, puN, pu1, pu2, pu3]
  refine wpAnyH_take (i := 28) (oi := ({ dst := some 158, op := Op.binOp BinOp.eql 3 (Operand.tmp 157) (Operand.const (Value.int IntKind.i64 0)) 3, type := 4, pos := "law.go:63", after := #[{ on := 27, ground := Ground.data }, { on := 24, ground := Ground.guard }], guard := some (24, true) } : Oper)) (v := ?av29) rfl (by kernel_rfl) (by kernel_rfl) (by kernel_rfl) (fun _ _ _ h => h) (Or.inl ⟨by rfl, ?ay29⟩) T27 ?_
  case ay29 => (intro V hSw; go_simp; try with_reducible rfl)
  try simp only [pu0, puN, pu1, pu2, pu3]
  refine wpAnyH_take (i := 29) (oi := ({ dst := some 159, op := Op.pick (Operand.tmp 154) (Operand.tmp 158) (Operand.const (Value.bool false)), type := 4, pos := "law.go:63", after := #[{ on := 24, ground := Ground.data }, { on := 28, ground := Ground.data }], guard := none } : Oper)) (v := ?av30) rfl (by kernel_rfl) (by kernel_rfl) (by kernel_rfl) (fun _ _ _ h => h) (Or.inl ⟨by rfl, ?ay30⟩) T27 ?_
  case ay30 => (intro V hSw; go_simp; try with_reducible rfl)
  try simp only [pu0, puN, pu1, pu2, pu3]
  refine wpAnyH_take (i := 30) (oi := ({ dst := some 26, op := Op.assign (Operand.tmp 159), type := 4, pos := "law.go:63", after := #[{ on := 29, ground := Ground.data }, { on := 26, ground := Ground.chain }, { on := 0, ground := Ground.phase }, { on := 1, ground := Ground.phase }, { on := 2, ground := Ground.phase }, { on := 3, ground := Ground.phase }, { on := 4, ground := Ground.phase }, { on := 5, ground := Ground.phase }, { on := 6, ground := Ground.phase }, { on := 7, ground := Ground.phase }, { on := 8, ground := Ground.phase }, { on := 9, ground := Ground.phase }, { on := 10, ground := Ground.phase }, { on := 11, ground := Ground.phase }, { on := 12, ground := Ground.phase }, { on := 13, ground := Ground.phase }, { on := 14, ground := Ground.phase }, { on := 15, ground := Ground.phase }, { on := 16, ground := Ground.phase }, { on := 17, ground := Ground.phase }, { on := 18, ground := Ground.phase }, { on := 19, ground := Ground.phase }, { on := 20, ground := Ground.phase }, { on := 21, ground := Ground.phase }, { on := 22, ground := Ground.phase }, { on := 23, ground := Ground.phase }, { on := 24, ground := Ground.phase }, { on := 25, ground := Ground.phase }, { on := 26, ground := Ground.phase }, { on := 27, ground := Ground.phase }, { on := 28, ground := Ground.phase }, { on := 29, ground := Ground.phase }], guard := none } : Oper)) (v := ?av31) rfl (by kernel_rfl) (by kernel_rfl) (by kernel_rfl) (fun _ _ _ h => h) (Or.inl ⟨by rfl, ?ay31⟩) T27 ?_
  case ay31 => (intro V hSw; go_simp; try with_reducible rfl)
  try simp only [pu0, puN, pu1, pu2, pu3]
  refine wpAnyH_done (by kernel_rfl) ?_ _
  try go_wp2
  go_meet
  case rel => exact ⟨rfl, T27⟩
 obtain ⟨rfl, hb9⟩ := hcut
 have BZ := Lib.hid (SY15.out.below.trans (hb9.mono SY15.out.ge0))
 clear hb9 h8 h10 h12 h14 h4
 go_wp2
 go_ret
 exact ⟨rfl, BZ.out⟩
end Go.Proofs.YtmaknddlgppinaaGreatDoor
