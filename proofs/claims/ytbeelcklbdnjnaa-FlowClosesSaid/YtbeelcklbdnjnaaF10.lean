/-
  WALK of the chapter's examples.
-/
import Derived.Test.YtbeelcklbdnjnaaF9
import Derived.Test.YtbeelcklbdnjnaaFr
set_option linter.unusedVariables false
set_option linter.unusedSimpArgs false
namespace Go.Proofs.Ytbeelcklbdnjnaa
open Go.RowKit

def exS : ByteArray := ⟨#[4, 0, 21, 0, 4, 44, 20, 255, 250]⟩
def exI : List In := [⟨0, 4, 0, [], []⟩, ⟨2, 21, 0, [], [6]⟩, ⟨5, 44, 0, [], []⟩, ⟨6, 20, 0, [], [0]⟩]
theorem exE : decE (L exS) = 0 := by kernel_rfl
theorem exL : decL (L exS) = exI := by kernel_rfl
theorem exD (w : World) : Calls Try.prog 9 #[.string ⟨#[4, 0, 21, 0, 4, 44, 20, 255, 250]⟩] w fun e w' => ∃ v, e = .returned (.tuple #[v, .int .i64 0]) ∧ NOwn w' w.heap.size v exI ∧ Below w.heap.size w w' := by
  have := refDecode_any exS w
  rw [exE, exL] at this
  exact this
theorem exO : Ord 9 exI := by
  have := (ord_of exE).1
  rw [exL] at this
  exact this
theorem exSucc : succL exI = [[1], [2, 3], [], [0]] := by kernel_rfl
theorem exBack : backL exI = [false, false, false, true] := by kernel_rfl
theorem exCov : covA exI ((9 : Nat) : Int) [⟨0, 5, 5, 0⟩] = [[0], [0], [], []] := by kernel_rfl
theorem exC1 : covE exI ((9 : Nat) : Int) [⟨0, 5, 5, 0⟩] = 0 := by kernel_rfl
theorem exC2 : covE exI ((9 : Nat) : Int) [⟨1, 5, 5, 0⟩] = 12 := by kernel_rfl
theorem exC3 : covE exI ((9 : Nat) : Int) [⟨0, 9, 5, 0⟩] = 0 := by kernel_rfl
theorem exC4 : covE exI ((9 : Nat) : Int) [⟨0, 8, 5, 0⟩] = 12 := by kernel_rfl
theorem IRow.new {w : World} {b B : Nat} {t : TypeId} {l : List Int} (h : w.heap[b]? = some (.cells (icells l).toArray t (0, 0))) (hb : b < B) (hm : l.length ≤ 1000) : IRow B w (.slice (some ⟨b, 0, none⟩) l.length l.length) l := by
  refine ⟨_, _, rfl, Nat.le_refl _, by unfold maxLen; omega, by simp [icells], fun _ => ⟨b, 0, rfl, hb, fun j u hu => ?_⟩⟩
  rw [Nat.zero_add, cells_of h j]
  simpa using hu
theorem IRow.none (B : Nat) (w : World) : IRow B w (.slice Option.none 0 0) [] := ⟨_, _, rfl, Nat.le_refl _, by unfold maxLen; simp, by simp [icells], fun h => absurd h (by simp)⟩
theorem LRow.new {w : World} {b B : Nat} {t : TypeId} {ll : List (List Int)} {ps : List Value} (h : w.heap[b]? = some (.cells ps.toArray t (0, 0))) (hb : b < B) (hl : ps.length = ll.length) (hm : ll.length ≤ 1000) (hi : ∀ (i : Nat) (l : List Int) (p : Value), ll[i]? = some l → ps[i]? = some p → IRow B w p l) : LRow B w (.slice (some ⟨b, 0, Option.none⟩) ll.length ll.length) ll := by
  refine ⟨ps, hl, hi, _, _, rfl, Nat.le_refl _, by unfold maxLen; omega, by omega, fun _ => ⟨b, 0, rfl, hb, fun j u hu => ?_⟩⟩
  rw [Nat.zero_add, cells_of h j]
  simpa using hu
theorem BRow.new {w : World} {b B : Nat} {t : TypeId} {l : List Bool} (h : w.heap[b]? = some (.cells (bcells l).toArray t (0, 0))) (hb : b < B) (hm : l.length ≤ 1000) : BRow B w (.slice (some ⟨b, 0, Option.none⟩) l.length l.length) l := by
  refine ⟨_, _, rfl, Nat.le_refl _, by unfold maxLen; omega, by simp [bcells], fun _ => ⟨b, 0, rfl, hb, fun j u hu => ?_⟩⟩
  rw [Nat.zero_add, cells_of h j]
  simpa using hu
theorem HRow.new1 {w : World} {b B : Nat} {t : TypeId} {h : Hd} (e : w.heap[b]? = some (.cells (hcells h).toArray t (0, 0))) (hb : b < B) : HRow B w (.slice (some ⟨b, 0, Option.none⟩) 1 1) [h] := by
  refine ⟨_, _, rfl, Nat.le_refl _, by unfold maxLen; simp, by simp [hcells], fun _ => ⟨b, 0, rfl, hb, fun j u hu => ?_⟩⟩
  rw [Nat.zero_add, cells_of e j]
  simpa using hu
theorem rows1 (w : World) : LRow ((((w.alloc (.cells #[.int .i64 1] 3)).alloc (.cells #[.int .i64 2, .int .i64 3] 3)).alloc (.cells #[.int .i64 0] 3)).alloc (.cells #[.slice (some ⟨w.heap.size, 0, none⟩) 1 1, .slice (some ⟨w.heap.size + 1, 0, none⟩) 2 2, .slice none 0 0, .slice (some ⟨w.heap.size + 1 + 1, 0, none⟩) 1 1] 34)).heap.size
    ((((w.alloc (.cells #[.int .i64 1] 3)).alloc (.cells #[.int .i64 2, .int .i64 3] 3)).alloc (.cells #[.int .i64 0] 3)).alloc (.cells #[.slice (some ⟨w.heap.size, 0, none⟩) 1 1, .slice (some ⟨w.heap.size + 1, 0, none⟩) 2 2, .slice none 0 0, .slice (some ⟨w.heap.size + 1 + 1, 0, none⟩) 1 1] 34))
    (.slice (some ⟨w.heap.size + 1 + 1 + 1, 0, none⟩) 4 4) [[1], [2, 3], [], [0]] := by
  refine LRow.new (ps := [.slice (some ⟨w.heap.size, 0, none⟩) 1 1, .slice (some ⟨w.heap.size + 1, 0, none⟩) 2 2, .slice none 0 0, .slice (some ⟨w.heap.size + 1 + 1, 0, none⟩) 1 1]) (heap_new_at _ _ _ (by simp)) (by simp) rfl (by decide) ?_
  intro i l p a b
  match i, a, b with
  | 0, a, b => cases a; cases b; exact IRow.new (l := [1]) (heap_alloc_lt (heap_alloc_lt (heap_alloc_lt (heap_new w _)))) (by simp; omega) (by decide)
  | 1, a, b => cases a; cases b; exact IRow.new (l := [2, 3]) (heap_alloc_lt (heap_alloc_lt (heap_new_at _ _ _ (by simp)))) (by simp) (by decide)
  | 2, a, b => cases a; cases b; exact IRow.none _ _
  | 3, a, b => cases a; cases b; exact IRow.new (l := [0]) (heap_alloc_lt (heap_new_at _ _ _ (by simp))) (by simp) (by decide)
  | n + 4, a, b => simp at a
theorem rows2 (w : World) : LRow (((w.alloc (.cells #[.int .i64 0] 3)).alloc (.cells #[.int .i64 0] 3)).alloc (.cells #[.slice (some ⟨w.heap.size, 0, none⟩) 1 1, .slice (some ⟨w.heap.size + 1, 0, none⟩) 1 1, .slice none 0 0, .slice none 0 0] 34)).heap.size
    (((w.alloc (.cells #[.int .i64 0] 3)).alloc (.cells #[.int .i64 0] 3)).alloc (.cells #[.slice (some ⟨w.heap.size, 0, none⟩) 1 1, .slice (some ⟨w.heap.size + 1, 0, none⟩) 1 1, .slice none 0 0, .slice none 0 0] 34))
    (.slice (some ⟨w.heap.size + 1 + 1, 0, none⟩) 4 4) [[0], [0], [], []] := by
  refine LRow.new (ps := [.slice (some ⟨w.heap.size, 0, none⟩) 1 1, .slice (some ⟨w.heap.size + 1, 0, none⟩) 1 1, .slice none 0 0, .slice none 0 0]) (heap_new_at _ _ _ (by simp)) (by simp) rfl (by decide) ?_
  intro i l p a b
  match i, a, b with
  | 0, a, b => cases a; cases b; exact IRow.new (l := [0]) (heap_alloc_lt (heap_alloc_lt (heap_new w _))) (by simp; omega) (by decide)
  | 1, a, b => cases a; cases b; exact IRow.new (l := [0]) (heap_alloc_lt (heap_new_at _ _ _ (by simp))) (by simp) (by decide)
  | 2, a, b => cases a; cases b; exact IRow.none _ _
  | 3, a, b => cases a; cases b; exact IRow.none _ _
  | n + 4, a, b => simp at a
theorem lists_eq (B : Nat) (a : List (List Int)) (va vb : Value) (w : World) (ha : LRow B w va a) (hb : LRow w.heap.size w vb a) (hB : B ≤ w.heap.size) :
    Calls Try.prog 10 #[va, vb] w fun e w' => e = .returned (.bool true) ∧ Below w.heap.size w w' ∧ w'.heap.size = w.heap.size := by
  refine (sameLists_any w.heap.size a a va vb w (ha.more hB) hb (Nat.le_refl _)).mono ?_
  rintro e w' ⟨h, hd⟩
  exact ⟨by rw [h]; simp, hd.below, hd.size⟩
theorem bools_eq (B : Nat) (a : List Bool) (va vb : Value) (w : World) (ha : BRow B w va a) (hb : BRow w.heap.size w vb a) (hB : B ≤ w.heap.size) :
    Calls Try.prog 20 #[va, vb] w fun e w' => e = .returned (.bool true) ∧ Below w.heap.size w w' ∧ w'.heap.size = w.heap.size := by
  refine (sameBools_any w.heap.size a a va vb w (ha.more hB) hb (Nat.le_refl _)).mono ?_
  rintro e w' ⟨h, hd⟩
  exact ⟨by rw [h]; simp, hd.below, hd.size⟩
theorem hok_small {f t a : Int} (h1 : 0 ≤ f ∧ f < 100) (h2 : 0 ≤ t ∧ t < 100) (h3 : 0 ≤ a ∧ a < 100) : Hok [⟨f, t, a, 0⟩] := fun h hh => by
  simp at hh
  subst hh
  unfold i64
  simp only
  omega
theorem ex_cover (B : Nat) (v : Value) (r f t a : Int) (w : World) (hf : covE exI ((9 : Nat) : Int) [⟨f, t, a, 0⟩] = r) (hr : NRow B w v exI) (hB : B ≤ w.heap.size) (hw : Hok [⟨f, t, a, 0⟩]) :
    Calls Try.prog 13 #[v, .int .i64 9, .slice (some ⟨w.heap.size, 0, none⟩) 1 1] (w.alloc (.cells #[.int .i64 f, .int .i64 t, .int .i64 a, .int .i64 0] 48)) fun e w' => ∃ u, e = .returned (.tuple #[u, .int .i64 r]) ∧ LOwn w' (w.heap.size + 1) u (covA exI ((9 : Nat) : Int) [⟨f, t, a, 0⟩]) ∧ Below (w.heap.size + 1) (w.alloc (.cells #[.int .i64 f, .int .i64 t, .int .i64 a, .int .i64 0] 48)) w' := by
  rw [← hf]
  have := cover_any (w.heap.size + 1) 9 exI [⟨f, t, a, 0⟩] v (.slice (some ⟨w.heap.size, 0, none⟩) 1 1) (w.alloc (.cells #[.int .i64 f, .int .i64 t, .int .i64 a, .int .i64 0] 48)) ((hr.alloc hB _).more (by omega)) (HRow.new1 (h := ⟨f, t, a, 0⟩) (heap_new w _) (by omega)) (by simp) exO (by omega) (by decide) (by simp) hw
  rw [size_alloc] at this
  exact this
set_option maxRecDepth 1000000 in
set_option maxHeartbeats 6400000 in
theorem shown_any (w : World) : Calls Try.prog 8 #[] w fun e w' => e = .returned (.bool true) ∧ Below w.heap.size w w' := by
  go_enter Try.func8, Try.ntmps8
  go_wp2_with fail
  refine (exD _).mono ?_
  rintro e w1 ⟨v1, rfl, ho1, hb1⟩
  have hz1 := hb1.size
  have R1 := Lib.hid ho1.row
  have B1 := Lib.hid hb1
  obtain ⟨a1, c1, rfl⟩ := ho1.form
  have HS := Lib.hid (succ_any w1.heap.size 9 exI _ w1 R1.out (Nat.le_refl _) exO (by omega) (by decide))
  clear ho1 hb1
  rw [show exI.length = 4 from rfl] at *
  go_wp2_with fail
  refine HS.out.mono ?_
  rintro e w2 ⟨v2, rfl, ho2, hb2⟩
  rw [exSucc] at ho2
  have hz2 := hb2.size
  have R2 := Lib.hid ho2.row
  have B2 := Lib.hid (Below.link B1.out hb2)
  obtain ⟨a2, c2, rfl⟩ := ho2.form
  have RI2 := Lib.hid (R1.out.below hb2 (Nat.le_refl _))
  clear ho2 hb2 HS R1
  go_wp2_with fail
  refine (lists_eq w2.heap.size _ _ _ _ (R2.out.below (B' := w2.heap.size) (by repeat (first | exact Below.refl _ _ | refine Below.alloc ?_ (by first | exact Nat.le_refl _ | (simp; done) | (simp; omega)) _)) (Nat.le_refl _)) (rows1 w2) (by simp; omega)).mono ?_
  rintro e w3 ⟨rfl, hb3, hz3⟩
  simp at hz3
  replace hz3 : w2.heap.size ≤ w3.heap.size := by omega
  have hx3 : Below w2.heap.size w2 w3 := Below.trans (by repeat (first | exact Below.refl _ _ | refine Below.alloc ?_ (by first | exact Nat.le_refl _ | (simp; done) | (simp; omega)) _)) (hb3.mono (by simp; omega))
  have B3 := Lib.hid (Below.link B2.out hx3)
  have RI3 := Lib.hid (RI2.out.below hx3 hz2)
  clear hb3 hx3 RI2 R2
  have HBK := Lib.hid (back_any w1.heap.size exI _ w3 RI3.out (by omega) (by decide))
  rw [show exI.length = 4 from rfl] at HBK
  go_wp2_with fail
  refine HBK.out.mono ?_
  rintro e w4 ⟨v4, rfl, ho4, hb4⟩
  rw [exBack] at ho4
  have hz4 := hb4.size
  have R4 := Lib.hid (show BRow w4.heap.size w4 v4 [false, false, false, true] from Row.of_own ho4)
  have B4 := Lib.hid (Below.link B3.out hb4)
  have RI4 := Lib.hid (RI3.out.below hb4 (by omega))
  obtain ⟨a4, c4, rfl⟩ := own_form ho4
  clear ho4 hb4 HBK RI3
  go_wp2_with fail
  refine (bools_eq w4.heap.size _ _ _ _ (R4.out.below (B' := w4.heap.size) ((Below.refl _ _).alloc (Nat.le_refl _) _) (Nat.le_refl _)) (BRow.new (l := [false, false, false, true]) (heap_new w4 _) (by simp) (by decide)) (by simp)).mono ?_
  rintro e w5 ⟨rfl, hb5, hz5⟩
  simp at hz5
  replace hz5 : w4.heap.size ≤ w5.heap.size := by omega
  have hx5 : Below w4.heap.size w4 w5 := Below.trans ((Below.refl _ _).alloc (Nat.le_refl _) _) (hb5.mono (by first | (simp; done) | (simp; omega)))
  have B5 := Lib.hid (Below.link B4.out hx5)
  have RI5 := Lib.hid (RI4.out.below hx5 (by omega))
  clear hb5 hx5 RI4 R4
  have HC0 := Lib.hid (ex_cover w1.heap.size _ _ 0 5 5 _ exC1 RI5.out (by omega) (hok_small (by omega) (by omega) (by omega)))
  go_wp2_with fail
  refine HC0.out.mono ?_
  rintro e w6 ⟨v6, rfl, ho6, hb6⟩
  have hz6 := hb6.size
  simp at hz6
  replace hz6 : w5.heap.size ≤ w6.heap.size := by omega
  have hx6 : Below w5.heap.size w5 w6 := Below.trans ((Below.refl _ _).alloc (Nat.le_refl _) _) (hb6.mono (by first | (simp; done) | (simp; omega)))
  have B6 := Lib.hid (Below.link B5.out hx6)
  have RI6 := Lib.hid (RI5.out.below hx6 (by omega))
  rw [exCov] at ho6
  have RC := Lib.hid ho6.row
  obtain ⟨a6, c6, rfl⟩ := ho6.form
  clear ho6 hb6 hx6 RI5 HC0
  go_wp2_with fail
  refine (lists_eq w6.heap.size _ _ _ _ (RC.out.below (B' := w6.heap.size) (by repeat (first | exact Below.refl _ _ | refine Below.alloc ?_ (by first | exact Nat.le_refl _ | (simp; done) | (simp; omega)) _)) (Nat.le_refl _)) (rows2 w6) (by simp; omega)).mono ?_
  rintro e w7 ⟨rfl, hb7, hz7⟩
  simp at hz7
  replace hz7 : w6.heap.size ≤ w7.heap.size := by omega
  have hx7 : Below w6.heap.size w6 w7 := Below.trans (by repeat (first | exact Below.refl _ _ | refine Below.alloc ?_ (by first | exact Nat.le_refl _ | (simp; done) | (simp; omega)) _)) (hb7.mono (by simp; omega))
  have B7 := Lib.hid (Below.link B6.out hx7)
  have RI7 := Lib.hid (RI6.out.below hx7 (by omega))
  clear hb7 hx7 RI6 RC
  have HC1 := Lib.hid (ex_cover w1.heap.size _ _ 1 5 5 _ exC2 RI7.out (by omega) (hok_small (by omega) (by omega) (by omega)))
  go_wp2_with fail
  refine HC1.out.mono ?_
  rintro e w8 ⟨v8, rfl, ho8, hb8⟩
  have hz8 := hb8.size
  simp at hz8
  replace hz8 : w7.heap.size ≤ w8.heap.size := by omega
  have hx8 : Below w7.heap.size w7 w8 := Below.trans ((Below.refl _ _).alloc (Nat.le_refl _) _) (hb8.mono (by first | (simp; done) | (simp; omega)))
  have B8 := Lib.hid (Below.link B7.out hx8)
  have RI8 := Lib.hid (RI7.out.below hx8 (by omega))
  clear ho8 hb8 hx8 RI7 HC1
  have HC2 := Lib.hid (ex_cover w1.heap.size _ _ 0 9 5 _ exC3 RI8.out (by omega) (hok_small (by omega) (by omega) (by omega)))
  go_wp2_with fail
  refine HC2.out.mono ?_
  rintro e w9 ⟨v9, rfl, ho9, hb9⟩
  have hz9 := hb9.size
  simp at hz9
  replace hz9 : w8.heap.size ≤ w9.heap.size := by omega
  have hx9 : Below w8.heap.size w8 w9 := Below.trans ((Below.refl _ _).alloc (Nat.le_refl _) _) (hb9.mono (by first | (simp; done) | (simp; omega)))
  have B9 := Lib.hid (Below.link B8.out hx9)
  have RI9 := Lib.hid (RI8.out.below hx9 (by omega))
  clear ho9 hb9 hx9 RI8 HC2
  have HC3 := Lib.hid (ex_cover w1.heap.size _ _ 0 8 5 _ exC4 RI9.out (by omega) (hok_small (by omega) (by omega) (by omega)))
  go_wp2_with fail
  refine HC3.out.mono ?_
  rintro e w10 ⟨v10, rfl, ho10, hb10⟩
  have hz10 := hb10.size
  simp at hz10
  replace hz10 : w9.heap.size ≤ w10.heap.size := by omega
  have hx10 : Below w9.heap.size w9 w10 := Below.trans ((Below.refl _ _).alloc (Nat.le_refl _) _) (hb10.mono (by first | (simp; done) | (simp; omega)))
  have B10 := Lib.hid (Below.link B9.out hx10)
  have RI10 := Lib.hid (RI9.out.below hx10 (by omega))
  clear ho10 hb10 hx10 RI9 HC3
  go_wp2
  go_ret
  exact ⟨rfl, B10.out⟩
end Go.Proofs.Ytbeelcklbdnjnaa
