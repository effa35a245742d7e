/-
  WALK of the reader: a method.
-/
import Derived.Test.YtcgloepfnnfioaaP5
set_option linter.unusedVariables false
set_option linter.unusedSimpArgs false
namespace Go.Proofs.Ytcgloepfnnfioaa
open Go.RowKit

/-- A method. -/
def rdD (s : List UInt8) (e : Int) : Mb × List UInt8 × Int :=
  let a := rdH s e
  if a.1.1 = 2 then (⟨a.1.1, a.1.2.1, a.1.2.2, 0, 0, ⟨#[]⟩, []⟩, a.2)
  else
    let b := rdN 1 a.2.1 a.2.2
    let c := rdN 1 b.2.1 b.2.2
    let d := rdT c.2.1 c.2.2
    let h := rdS rdK 1 d.2.1 d.2.2
    (⟨a.1.1, a.1.2.1, a.1.2.2, b.1, c.1, mkB d.1, h.1⟩, h.2)
theorem own_set {b i base n size : Nat} {e : TypeId} {v u : Value} {xs : List Value} {w : World} (h : w.ownsRow base e size v n xs) (hb : b < base) : (w.setCell ⟨b, i, none⟩ u).ownsRow base e size v n xs := own_upd h Upd.set hb
theorem own_less {base base' n size : Nat} {e : TypeId} {v : Value} {xs : List Value} {w : World} (h : w.ownsRow base e size v n xs) (hb : base' ≤ base) : w.ownsRow base' e size v n xs :=
  ⟨h.1, h.2.imp id fun ⟨g, cap, cur, h1, h2, h3⟩ => ⟨g, cap, cur, h1, Nat.le_trans hb h2, h3⟩⟩
theorem rdT_len (s : List UInt8) (e : Int) : (rdT s e).1.length ≤ 65535 := by
  unfold rdT
  have h := tk_len (rdN 2 s e).1.toNat (rdN 2 s e).2.1 (rdN 2 s e).2.2
  have := rdN2 s e
  omega
set_option maxRecDepth 1000000 in
set_option maxHeartbeats 6400000 in
theorem method_any (q : Nat) (s : ByteArray) (e : Int) (w : World) (h : RBox q s e w) :
    Calls Try.prog 71 #[.pointer (some ⟨q, 0, none⟩)] w fun en w' => ∃ hv s', en = .returned (.agg #[.int .i64 (rdD (L s) e).1.fl, .int .i64 (rdD (L s) e).1.nm, .int .i64 (rdD (L s) e).1.ds, .int .i64 (rdD (L s) e).1.ms, .int .i64 (rdD (L s) e).1.ml, .string (rdD (L s) e).1.code, hv]) ∧
      w'.ownsRow w.heap.size 76 4 hv (rdD (L s) e).1.hs.length ((rdD (L s) e).1.hs.flatMap hcells) ∧ L s' = (rdD (L s) e).2.1 ∧ RBox q s' (rdD (L s) e).2.2 w' ∧ Upd q w w' := by
  have hq := h.lt
  have hne0 : q ≠ w.heap.size := by omega
  have HC1 := Lib.hid (head_any q s e _ (h.alloc (.cells #[.int .i64 0, .int .i64 0, .int .i64 0, .int .i64 0, .int .i64 0, .string ⟨#[]⟩, .slice none 0 0] 38)))
  have U0 := Lib.hid ((Upd.refl q w).alloc (.cells #[.int .i64 0, .int .i64 0, .int .i64 0, .int .i64 0, .int .i64 0, .string ⟨#[]⟩, .slice none 0 0] 38))
  have BR0 := Lib.hid (heap_new w (.cells #[.int .i64 0, .int .i64 0, .int .i64 0, .int .i64 0, .int .i64 0, .string ⟨#[]⟩, .slice none 0 0] 38))
  clear h
  obtain ⟨⟨⟨a1, a2, a3⟩, T2, T3⟩, hT⟩ : ∃ T, rdH (L s) e = T := ⟨_, rfl⟩
  have HDD := Lib.hid (show rdD (L s) e = if a1 = 2 then (⟨a1, a2, a3, 0, 0, ⟨#[]⟩, []⟩, T2, T3)
    else (⟨a1, a2, a3, (rdN 1 T2 T3).1, (rdN 1 (rdN 1 T2 T3).2.1 (rdN 1 T2 T3).2.2).1, mkB (rdT (rdN 1 (rdN 1 T2 T3).2.1 (rdN 1 T2 T3).2.2).2.1 (rdN 1 (rdN 1 T2 T3).2.1 (rdN 1 T2 T3).2.2).2.2).1, (rdS rdK 1 (rdT (rdN 1 (rdN 1 T2 T3).2.1 (rdN 1 T2 T3).2.2).2.1 (rdN 1 (rdN 1 T2 T3).2.1 (rdN 1 T2 T3).2.2).2.2).2.1 (rdT (rdN 1 (rdN 1 T2 T3).2.1 (rdN 1 T2 T3).2.2).2.1 (rdN 1 (rdN 1 T2 T3).2.1 (rdN 1 T2 T3).2.2).2.2).2.2).1⟩,
      (rdS rdK 1 (rdT (rdN 1 (rdN 1 T2 T3).2.1 (rdN 1 T2 T3).2.2).2.1 (rdN 1 (rdN 1 T2 T3).2.1 (rdN 1 T2 T3).2.2).2.2).2.1 (rdT (rdN 1 (rdN 1 T2 T3).2.1 (rdN 1 T2 T3).2.2).2.1 (rdN 1 (rdN 1 T2 T3).2.1 (rdN 1 T2 T3).2.2).2.2).2.2).2) by unfold rdD; rw [hT])
  rw [hT] at HC1
  generalize rdD (L s) e = D at *
  clear hT
  simp only at HC1
  by_cases h2 : a1 = 2
  · subst h2
    go_enter Try.func71, Try.ntmps71
    go_wp2_with fail
    refine (HC1.out).mono ?_
    rintro en w1 ⟨s1, rfl, hs1, hr, hu⟩
    have hsz1 := hu.size
    have hq1 := hr.lt
    have hlt1 : w.heap.size < w1.heap.size := by have := hu.size; simp at this; omega
    have hne1 : q ≠ w1.heap.size := by omega
    have HS1 := Lib.hid hs1
    have R1 := Lib.hid (hr.alloc (.cells #[.int .i64 2, .int .i64 a2, .int .i64 a3, .int .i64 0, .int .i64 0, .string ⟨#[]⟩, .slice none 0 0] 38))
    have U1 := Lib.hid ((U0.out.trans hu).alloc (.cells #[.int .i64 2, .int .i64 a2, .int .i64 a3, .int .i64 0, .int .i64 0, .string ⟨#[]⟩, .slice none 0 0] 38))
    have BRy := (hu.block w.heap.size (lt_of_block BR0.out) (by omega)).trans BR0.out
    have BR1 := Lib.hid (heap_alloc_lt (o := (.cells #[.int .i64 2, .int .i64 a2, .int .i64 a3, .int .i64 0, .int .i64 0, .string ⟨#[]⟩, .slice none 0 0] 38)) BRy)
    have BM1 := Lib.hid (heap_new w1 (.cells #[.int .i64 2, .int .i64 a2, .int .i64 a3, .int .i64 0, .int .i64 0, .string ⟨#[]⟩, .slice none 0 0] 38))
    have hq2 := hr.lt
    have BRx := BRy
    have BMx := BM1.out
    have HDF := Lib.hid (show D = (⟨2, a2, a3, 0, 0, ⟨#[]⟩, []⟩, L s1, T3) by rw [HDD.out, HS1.out]; rfl)
    have r0 := cells_of BRx 0
    have fr0 : w1.frozen? ⟨w.heap.size, 0, none⟩ = false := free_of BRx 0
    have r1 := cells_of BRx 1
    have fr1 : w1.frozen? ⟨w.heap.size, 1, none⟩ = false := free_of BRx 1
    have r2 := cells_of BRx 2
    have fr2 : w1.frozen? ⟨w.heap.size, 2, none⟩ = false := free_of BRx 2
    have r3 := cells_of BRx 3
    have fr3 : w1.frozen? ⟨w.heap.size, 3, none⟩ = false := free_of BRx 3
    have r4 := cells_of BRx 4
    have fr4 : w1.frozen? ⟨w.heap.size, 4, none⟩ = false := free_of BRx 4
    have r5 := cells_of BRx 5
    have fr5 : w1.frozen? ⟨w.heap.size, 5, none⟩ = false := free_of BRx 5
    have r6 := cells_of BRx 6
    have fr6 : w1.frozen? ⟨w.heap.size, 6, none⟩ = false := free_of BRx 6
    have RF := Lib.hid ((((((((hr.set_ne (i := 0) (u := .int .i64 2) hne0).set_ne (i := 1) (u := .int .i64 a2) hne0).set_ne (i := 2) (u := .int .i64 a3) hne0).set_ne (i := 3) (u := .int .i64 0) hne0).set_ne (i := 4) (u := .int .i64 0) hne0).set_ne (i := 5) (u := .string ⟨#[]⟩) hne0).set_ne (i := 6) (u := .slice none 0 0) hne0).alloc (.cells #[.int .i64 2, .int .i64 a2, .int .i64 a3, .int .i64 0, .int .i64 0, .string ⟨#[]⟩, .slice none 0 0] 38))
    have UF := Lib.hid (((((((((U0.out.trans hu).set_new (b := w.heap.size) (i := 0) (u := .int .i64 2) (Nat.le_refl _)).set_new (b := w.heap.size) (i := 1) (u := .int .i64 a2) (Nat.le_refl _)).set_new (b := w.heap.size) (i := 2) (u := .int .i64 a3) (Nat.le_refl _)).set_new (b := w.heap.size) (i := 3) (u := .int .i64 0) (Nat.le_refl _)).set_new (b := w.heap.size) (i := 4) (u := .int .i64 0) (Nat.le_refl _)).set_new (b := w.heap.size) (i := 5) (u := .string ⟨#[]⟩) (Nat.le_refl _)).set_new (b := w.heap.size) (i := 6) (u := .slice none 0 0) (Nat.le_refl _)).alloc (.cells #[.int .i64 2, .int .i64 a2, .int .i64 a3, .int .i64 0, .int .i64 0, .string ⟨#[]⟩, .slice none 0 0] 38))
    have BFy := (heap_set_eq2 (i := 6) (u := .slice none 0 0) (heap_set_eq2 (i := 5) (u := .string ⟨#[]⟩) (heap_set_eq2 (i := 4) (u := .int .i64 0) (heap_set_eq2 (i := 3) (u := .int .i64 0) (heap_set_eq2 (i := 2) (u := .int .i64 a3) (heap_set_eq2 (i := 1) (u := .int .i64 a2) (heap_set_eq2 (i := 0) (u := .int .i64 2) BRy)))))))
    have BF := Lib.hid (heap_alloc_lt (o := (.cells #[.int .i64 2, .int .i64 a2, .int .i64 a3, .int .i64 0, .int .i64 0, .string ⟨#[]⟩, .slice none 0 0] 38)) BFy)
    clear BFy
    clear hs1 hr hu BRy BRx BMx R1 U1 BR1 BM1
    go_wp2
    obtain ⟨W, hW⟩ : ∃ W, W = ((((((((w1.setCell ⟨w.heap.size, 0, none⟩ (.int .i64 2)).setCell ⟨w.heap.size, 1, none⟩ (.int .i64 a2)).setCell ⟨w.heap.size, 2, none⟩ (.int .i64 a3)).setCell ⟨w.heap.size, 3, none⟩ (.int .i64 0)).setCell ⟨w.heap.size, 4, none⟩ (.int .i64 0)).setCell ⟨w.heap.size, 5, none⟩ (.string ⟨#[]⟩)).setCell ⟨w.heap.size, 6, none⟩ (.slice none 0 0)).alloc (.cells #[.int .i64 2, .int .i64 a2, .int .i64 a3, .int .i64 0, .int .i64 0, .string ⟨#[]⟩, .slice none 0 0] 38)) := ⟨_, rfl⟩
    rw [← hW] at RF UF BF
    rw [← hW]
    clear hW
    have BV := BF.out
    have t0 := cells_of BV 0
    have t1 := cells_of BV 1
    have t2 := cells_of BV 2
    have t3 := cells_of BV 3
    have t4 := cells_of BV 4
    have t5 := cells_of BV 5
    have t6 := cells_of BV 6
    refine bodyPost_ret (v := .agg #[.int .i64 2, .int .i64 a2, .int .i64 a3, .int .i64 0, .int .i64 0, .string ⟨#[]⟩, .slice none 0 0]) (by simp [results, Try.results71, go_sem, t0, t1, t2, t3, t4, t5, t6]) rfl ⟨.slice none 0 0, s1, by rw [HDF.out], by rw [HDF.out]; exact World.ownsRow_nil _ w.heap.size 76 4, by rw [HDF.out], by rw [HDF.out]; exact RF.out, UF.out⟩
  · have g2 : (a1 == 2) = false := by simpa using h2
    have HDE := Lib.hid (HDD.out.trans (if_neg h2))
    clear h2 HDD
    go_enter Try.func71, Try.ntmps71
    go_wp2_with fail
    refine (HC1.out).mono ?_
    rintro en w1 ⟨s1, rfl, hs1, hr, hu⟩
    have hsz1 := hu.size
    have hq1 := hr.lt
    have hlt1 : w.heap.size < w1.heap.size := by have := hu.size; simp at this; omega
    have hne1 : q ≠ w1.heap.size := by omega
    have HS1 := Lib.hid hs1
    have R1 := Lib.hid (hr.alloc (.cells #[.int .i64 a1, .int .i64 a2, .int .i64 a3, .int .i64 0, .int .i64 0, .string ⟨#[]⟩, .slice none 0 0] 38))
    have U1 := Lib.hid ((U0.out.trans hu).alloc (.cells #[.int .i64 a1, .int .i64 a2, .int .i64 a3, .int .i64 0, .int .i64 0, .string ⟨#[]⟩, .slice none 0 0] 38))
    have BRy := (hu.block w.heap.size (lt_of_block BR0.out) (by omega)).trans BR0.out
    have BR1 := Lib.hid (heap_alloc_lt (o := (.cells #[.int .i64 a1, .int .i64 a2, .int .i64 a3, .int .i64 0, .int .i64 0, .string ⟨#[]⟩, .slice none 0 0] 38)) BRy)
    have BM1 := Lib.hid (heap_new w1 (.cells #[.int .i64 a1, .int .i64 a2, .int .i64 a3, .int .i64 0, .int .i64 0, .string ⟨#[]⟩, .slice none 0 0] 38))
    clear hs1 hr hu BRy
    have HC2 := Lib.hid (num_any q s1 T3 _ R1.out 1 (by omega))
    go_wp2_with fail
    refine (HC2.out).mono ?_
    rintro en w2 ⟨s2, rfl, hs, hr, hu⟩
    have BRx := (hu.block w.heap.size (lt_of_block BR1.out) (by omega)).trans BR1.out
    have BMx := (hu.block w1.heap.size (lt_of_block BM1.out) (by omega)).trans BM1.out
    have HS2 := Lib.hid hs
    have hf2 : w2.frozen? ⟨w1.heap.size, 3, none⟩ = false := free_of BMx 3
    have m0 := cells_of BMx 0
    have m1 := cells_of BMx 1
    have m2 := cells_of BMx 2
    have m3 := cells_of BMx 3
    have m4 := cells_of BMx 4
    have m5 := cells_of BMx 5
    have m6 := cells_of BMx 6
    have ltm := lt_of_block BMx
    have R2 := Lib.hid (hr.set_ne (i := 3) (u := .int .i64 (rdN 1 (L s1) T3).1) hne1)
    have U2 := Lib.hid ((U1.out.trans hu).set_new (b := w1.heap.size) (i := 3) (u := .int .i64 (rdN 1 (L s1) T3).1) (by omega))
    have BR2 := Lib.hid (show (w2.setCell ⟨w1.heap.size, 3, none⟩ (.int .i64 (rdN 1 (L s1) T3).1)).heap[w.heap.size]? = some (.cells #[.int .i64 0, .int .i64 0, .int .i64 0, .int .i64 0, .int .i64 0, .string ⟨#[]⟩, .slice none 0 0] 38 (0, 0)) from heap_setCell_ne (by show w.heap.size ≠ w1.heap.size; omega) BRx)
    have BM2 := Lib.hid (show (w2.setCell ⟨w1.heap.size, 3, none⟩ (.int .i64 (rdN 1 (L s1) T3).1)).heap[w1.heap.size]? = some (.cells #[.int .i64 a1, .int .i64 a2, .int .i64 a3, .int .i64 (rdN 1 (L s1) T3).1, .int .i64 0, .string ⟨#[]⟩, .slice none 0 0] 38 (0, 0)) from heap_set_eq2 BMx)
    clear hs hr hu BRx BMx
    have HC3 := Lib.hid (num_any q s2 (rdN 1 (L s1) T3).2.2 _ R2.out 1 (by omega))
    go_wp2_with fail
    refine (HC3.out).mono ?_
    rintro en w3 ⟨s3, rfl, hs, hr, hu⟩
    have BRx := (hu.block w.heap.size (lt_of_block BR2.out) (by omega)).trans BR2.out
    have BMx := (hu.block w1.heap.size (lt_of_block BM2.out) (by omega)).trans BM2.out
    have HS3 := Lib.hid hs
    have hf3 : w3.frozen? ⟨w1.heap.size, 4, none⟩ = false := free_of BMx 4
    have m0 := cells_of BMx 0
    have m1 := cells_of BMx 1
    have m2 := cells_of BMx 2
    have m3 := cells_of BMx 3
    have m4 := cells_of BMx 4
    have m5 := cells_of BMx 5
    have m6 := cells_of BMx 6
    have ltm := lt_of_block BMx
    have R3 := Lib.hid (hr.set_ne (i := 4) (u := .int .i64 (rdN 1 (L s2) (rdN 1 (L s1) T3).2.2).1) hne1)
    have U3 := Lib.hid ((U2.out.trans hu).set_new (b := w1.heap.size) (i := 4) (u := .int .i64 (rdN 1 (L s2) (rdN 1 (L s1) T3).2.2).1) (by omega))
    have BR3 := Lib.hid (show (w3.setCell ⟨w1.heap.size, 4, none⟩ (.int .i64 (rdN 1 (L s2) (rdN 1 (L s1) T3).2.2).1)).heap[w.heap.size]? = some (.cells #[.int .i64 0, .int .i64 0, .int .i64 0, .int .i64 0, .int .i64 0, .string ⟨#[]⟩, .slice none 0 0] 38 (0, 0)) from heap_setCell_ne (by show w.heap.size ≠ w1.heap.size; omega) BRx)
    have BM3 := Lib.hid (show (w3.setCell ⟨w1.heap.size, 4, none⟩ (.int .i64 (rdN 1 (L s2) (rdN 1 (L s1) T3).2.2).1)).heap[w1.heap.size]? = some (.cells #[.int .i64 a1, .int .i64 a2, .int .i64 a3, .int .i64 (rdN 1 (L s1) T3).1, .int .i64 (rdN 1 (L s2) (rdN 1 (L s1) T3).2.2).1, .string ⟨#[]⟩, .slice none 0 0] 38 (0, 0)) from heap_set_eq2 BMx)
    clear hs hr hu BRx BMx
    have HC4 := Lib.hid (text_any q s3 (rdN 1 (L s2) (rdN 1 (L s1) T3).2.2).2.2 _ R3.out)
    have HTL := Lib.hid (rdT_len (L s3) (rdN 1 (L s2) (rdN 1 (L s1) T3).2.2).2.2)
    go_wp2_with fail
    refine (HC4.out).mono ?_
    rintro en w4 ⟨tc, s4, rfl, htc, hs, hr, hu⟩
    have HTC := Lib.hid htc
    have HS4 := Lib.hid hs
    have HCL := Lib.hid (clone_any tc w4 (by rw [size_L, htc]; have := HTL.out; omega))
    have BRx := (hu.block w.heap.size (lt_of_block BR3.out) (by omega)).trans BR3.out
    have BMx := (hu.block w1.heap.size (lt_of_block BM3.out) (by omega)).trans BM3.out
    have U4 := Lib.hid (U3.out.trans hu)
    have R4 := Lib.hid hr
    have hsz4 := hu.size
    have ltr4 := lt_of_block BRx
    have ltm4 := lt_of_block BMx
    have BR4 := Lib.hid BRx
    have BM4 := Lib.hid BMx
    clear htc hs hr hu BRx BMx
    go_wp2_with fail
    refine (HCL.out).mono ?_
    rintro en w5 ⟨rfl, hb⟩
    have BRx := Below.keep hb ltr4 BR4.out
    have BMx := Below.keep hb ltm4 BM4.out
    have hf5 : w5.frozen? ⟨w1.heap.size, 5, none⟩ = false := free_of BMx 5
    have m0 := cells_of BMx 0
    have m1 := cells_of BMx 1
    have m2 := cells_of BMx 2
    have m3 := cells_of BMx 3
    have m4 := cells_of BMx 4
    have m5 := cells_of BMx 5
    have m6 := cells_of BMx 6
    have ltm := lt_of_block BMx
    have R5 := Lib.hid ((R4.out.below hb).set_ne (i := 5) (u := .string tc) hne1)
    have U5 := Lib.hid ((U4.out.trans (Upd.of_below hb)).set_new (b := w1.heap.size) (i := 5) (u := .string tc) (by omega))
    have BR5 := Lib.hid (show (w5.setCell ⟨w1.heap.size, 5, none⟩ (.string tc)).heap[w.heap.size]? = some (.cells #[.int .i64 0, .int .i64 0, .int .i64 0, .int .i64 0, .int .i64 0, .string ⟨#[]⟩, .slice none 0 0] 38 (0, 0)) from heap_setCell_ne (by show w.heap.size ≠ w1.heap.size; omega) BRx)
    have BM5 := Lib.hid (show (w5.setCell ⟨w1.heap.size, 5, none⟩ (.string tc)).heap[w1.heap.size]? = some (.cells #[.int .i64 a1, .int .i64 a2, .int .i64 a3, .int .i64 (rdN 1 (L s1) T3).1, .int .i64 (rdN 1 (L s2) (rdN 1 (L s1) T3).2.2).1, .string tc, .slice none 0 0] 38 (0, 0)) from heap_set_eq2 BMx)
    clear hb BRx BMx
    have HC6 := Lib.hid (listHandler_read q s4 (rdT (L s3) (rdN 1 (L s2) (rdN 1 (L s1) T3).2.2).2.2).2.2 _ R5.out)
    go_wp2_with fail
    refine (HC6.out).mono ?_
    rintro en w6 ⟨hv, s6, rfl, hown, hs, hr, hu⟩
    have BRx := (hu.block w.heap.size (lt_of_block BR5.out) (by omega)).trans BR5.out
    have BMx := (hu.block w1.heap.size (lt_of_block BM5.out) (by omega)).trans BM5.out
    have HS6 := Lib.hid hs
    obtain ⟨ah, ch, rfl⟩ := own_form hown
    have hbase : w1.heap.size < (w5.setCell ⟨w1.heap.size, 5, none⟩ (.string tc)).heap.size := lt_of_block BM5.out
    have hf6 : w6.frozen? ⟨w1.heap.size, 6, none⟩ = false := free_of BMx 6
    have m0 := cells_of BMx 0
    have m1 := cells_of BMx 1
    have m2 := cells_of BMx 2
    have m3 := cells_of BMx 3
    have m4 := cells_of BMx 4
    have m5 := cells_of BMx 5
    have m6 := cells_of BMx 6
    have ltm := lt_of_block BMx
    have r0 := cells_of BRx 0
    have fr0 : w6.frozen? ⟨w.heap.size, 0, none⟩ = false := free_of BRx 0
    have r1 := cells_of BRx 1
    have fr1 : w6.frozen? ⟨w.heap.size, 1, none⟩ = false := free_of BRx 1
    have r2 := cells_of BRx 2
    have fr2 : w6.frozen? ⟨w.heap.size, 2, none⟩ = false := free_of BRx 2
    have r3 := cells_of BRx 3
    have fr3 : w6.frozen? ⟨w.heap.size, 3, none⟩ = false := free_of BRx 3
    have r4 := cells_of BRx 4
    have fr4 : w6.frozen? ⟨w.heap.size, 4, none⟩ = false := free_of BRx 4
    have r5 := cells_of BRx 5
    have fr5 : w6.frozen? ⟨w.heap.size, 5, none⟩ = false := free_of BRx 5
    have r6 := cells_of BRx 6
    have fr6 : w6.frozen? ⟨w.heap.size, 6, none⟩ = false := free_of BRx 6
    have ltr := lt_of_block BRx
    have R6 := Lib.hid (hr.set_ne (i := 6) (u := .slice ah (rdS rdK 1 (L s4) (rdT (L s3) (rdN 1 (L s2) (rdN 1 (L s1) T3).2.2).2.2).2.2).1.length ch) hne1)
    have U6 := Lib.hid ((U5.out.trans hu).set_new (b := w1.heap.size) (i := 6) (u := .slice ah (rdS rdK 1 (L s4) (rdT (L s3) (rdN 1 (L s2) (rdN 1 (L s1) T3).2.2).2.2).2.2).1.length ch) (by omega))
    have BR6 := Lib.hid (show (w6.setCell ⟨w1.heap.size, 6, none⟩ (.slice ah (rdS rdK 1 (L s4) (rdT (L s3) (rdN 1 (L s2) (rdN 1 (L s1) T3).2.2).2.2).2.2).1.length ch)).heap[w.heap.size]? = some (.cells #[.int .i64 0, .int .i64 0, .int .i64 0, .int .i64 0, .int .i64 0, .string ⟨#[]⟩, .slice none 0 0] 38 (0, 0)) from heap_setCell_ne (by show w.heap.size ≠ w1.heap.size; omega) BRx)
    have OW := Lib.hid (own_set (i := 6) (u := .slice ah (rdS rdK 1 (L s4) (rdT (L s3) (rdN 1 (L s2) (rdN 1 (L s1) T3).2.2).2.2).2.2).1.length ch) hown hbase)
    clear hown hs hr hu BRx BMx
    have HDF := Lib.hid (show D = (⟨a1, a2, a3, (rdN 1 (L s1) T3).1, (rdN 1 (L s2) (rdN 1 (L s1) T3).2.2).1, tc, (rdS rdK 1 (L s4) (rdT (L s3) (rdN 1 (L s2) (rdN 1 (L s1) T3).2.2).2.2).2.2).1⟩, L s6, (rdS rdK 1 (L s4) (rdT (L s3) (rdN 1 (L s2) (rdN 1 (L s1) T3).2.2).2.2).2.2).2.2) by rw [HDE.out, ← mkB_L tc, HTC.out, HS6.out, HS4.out, HS3.out, HS2.out, HS1.out])
    go_wp2
    have BV : ((((((((w6.setCell ⟨w1.heap.size, 6, none⟩ (.slice ah (rdS rdK 1 (L s4) (rdT (L s3) (rdN 1 (L s2) (rdN 1 (L s1) T3).2.2).2.2).2.2).1.length ch)).setCell ⟨w.heap.size, 0, none⟩ (.int .i64 a1)).setCell ⟨w.heap.size, 1, none⟩ (.int .i64 a2)).setCell ⟨w.heap.size, 2, none⟩ (.int .i64 a3)).setCell ⟨w.heap.size, 3, none⟩ (.int .i64 (rdN 1 (L s1) T3).1)).setCell ⟨w.heap.size, 4, none⟩ (.int .i64 (rdN 1 (L s2) (rdN 1 (L s1) T3).2.2).1)).setCell ⟨w.heap.size, 5, none⟩ (.string tc)).setCell ⟨w.heap.size, 6, none⟩ (.slice ah (rdS rdK 1 (L s4) (rdT (L s3) (rdN 1 (L s2) (rdN 1 (L s1) T3).2.2).2.2).2.2).1.length ch)).heap[w.heap.size]? = some (.cells #[.int .i64 a1, .int .i64 a2, .int .i64 a3, .int .i64 (rdN 1 (L s1) T3).1, .int .i64 (rdN 1 (L s2) (rdN 1 (L s1) T3).2.2).1, .string tc, .slice ah (rdS rdK 1 (L s4) (rdT (L s3) (rdN 1 (L s2) (rdN 1 (L s1) T3).2.2).2.2).2.2).1.length ch] 38 (0, 0)) := (heap_set_eq2 (i := 6) (u := .slice ah (rdS rdK 1 (L s4) (rdT (L s3) (rdN 1 (L s2) (rdN 1 (L s1) T3).2.2).2.2).2.2).1.length ch) (heap_set_eq2 (i := 5) (u := .string tc) (heap_set_eq2 (i := 4) (u := .int .i64 (rdN 1 (L s2) (rdN 1 (L s1) T3).2.2).1) (heap_set_eq2 (i := 3) (u := .int .i64 (rdN 1 (L s1) T3).1) (heap_set_eq2 (i := 2) (u := .int .i64 a3) (heap_set_eq2 (i := 1) (u := .int .i64 a2) (heap_set_eq2 (i := 0) (u := .int .i64 a1) BR6.out)))))))
    have t0 : ((((((((w6.setCell ⟨w1.heap.size, 6, none⟩ (.slice ah (rdS rdK 1 (L s4) (rdT (L s3) (rdN 1 (L s2) (rdN 1 (L s1) T3).2.2).2.2).2.2).1.length ch)).setCell ⟨w.heap.size, 0, none⟩ (.int .i64 a1)).setCell ⟨w.heap.size, 1, none⟩ (.int .i64 a2)).setCell ⟨w.heap.size, 2, none⟩ (.int .i64 a3)).setCell ⟨w.heap.size, 3, none⟩ (.int .i64 (rdN 1 (L s1) T3).1)).setCell ⟨w.heap.size, 4, none⟩ (.int .i64 (rdN 1 (L s2) (rdN 1 (L s1) T3).2.2).1)).setCell ⟨w.heap.size, 5, none⟩ (.string tc)).setCell ⟨w.heap.size, 6, none⟩ (.slice ah (rdS rdK 1 (L s4) (rdT (L s3) (rdN 1 (L s2) (rdN 1 (L s1) T3).2.2).2.2).2.2).1.length ch)).cell? ⟨w.heap.size, 0, none⟩ = some (.int .i64 a1) := cells_of BV 0
    have t1 : ((((((((w6.setCell ⟨w1.heap.size, 6, none⟩ (.slice ah (rdS rdK 1 (L s4) (rdT (L s3) (rdN 1 (L s2) (rdN 1 (L s1) T3).2.2).2.2).2.2).1.length ch)).setCell ⟨w.heap.size, 0, none⟩ (.int .i64 a1)).setCell ⟨w.heap.size, 1, none⟩ (.int .i64 a2)).setCell ⟨w.heap.size, 2, none⟩ (.int .i64 a3)).setCell ⟨w.heap.size, 3, none⟩ (.int .i64 (rdN 1 (L s1) T3).1)).setCell ⟨w.heap.size, 4, none⟩ (.int .i64 (rdN 1 (L s2) (rdN 1 (L s1) T3).2.2).1)).setCell ⟨w.heap.size, 5, none⟩ (.string tc)).setCell ⟨w.heap.size, 6, none⟩ (.slice ah (rdS rdK 1 (L s4) (rdT (L s3) (rdN 1 (L s2) (rdN 1 (L s1) T3).2.2).2.2).2.2).1.length ch)).cell? ⟨w.heap.size, 1, none⟩ = some (.int .i64 a2) := cells_of BV 1
    have t2 : ((((((((w6.setCell ⟨w1.heap.size, 6, none⟩ (.slice ah (rdS rdK 1 (L s4) (rdT (L s3) (rdN 1 (L s2) (rdN 1 (L s1) T3).2.2).2.2).2.2).1.length ch)).setCell ⟨w.heap.size, 0, none⟩ (.int .i64 a1)).setCell ⟨w.heap.size, 1, none⟩ (.int .i64 a2)).setCell ⟨w.heap.size, 2, none⟩ (.int .i64 a3)).setCell ⟨w.heap.size, 3, none⟩ (.int .i64 (rdN 1 (L s1) T3).1)).setCell ⟨w.heap.size, 4, none⟩ (.int .i64 (rdN 1 (L s2) (rdN 1 (L s1) T3).2.2).1)).setCell ⟨w.heap.size, 5, none⟩ (.string tc)).setCell ⟨w.heap.size, 6, none⟩ (.slice ah (rdS rdK 1 (L s4) (rdT (L s3) (rdN 1 (L s2) (rdN 1 (L s1) T3).2.2).2.2).2.2).1.length ch)).cell? ⟨w.heap.size, 2, none⟩ = some (.int .i64 a3) := cells_of BV 2
    have t3 : ((((((((w6.setCell ⟨w1.heap.size, 6, none⟩ (.slice ah (rdS rdK 1 (L s4) (rdT (L s3) (rdN 1 (L s2) (rdN 1 (L s1) T3).2.2).2.2).2.2).1.length ch)).setCell ⟨w.heap.size, 0, none⟩ (.int .i64 a1)).setCell ⟨w.heap.size, 1, none⟩ (.int .i64 a2)).setCell ⟨w.heap.size, 2, none⟩ (.int .i64 a3)).setCell ⟨w.heap.size, 3, none⟩ (.int .i64 (rdN 1 (L s1) T3).1)).setCell ⟨w.heap.size, 4, none⟩ (.int .i64 (rdN 1 (L s2) (rdN 1 (L s1) T3).2.2).1)).setCell ⟨w.heap.size, 5, none⟩ (.string tc)).setCell ⟨w.heap.size, 6, none⟩ (.slice ah (rdS rdK 1 (L s4) (rdT (L s3) (rdN 1 (L s2) (rdN 1 (L s1) T3).2.2).2.2).2.2).1.length ch)).cell? ⟨w.heap.size, 3, none⟩ = some (.int .i64 (rdN 1 (L s1) T3).1) := cells_of BV 3
    have t4 : ((((((((w6.setCell ⟨w1.heap.size, 6, none⟩ (.slice ah (rdS rdK 1 (L s4) (rdT (L s3) (rdN 1 (L s2) (rdN 1 (L s1) T3).2.2).2.2).2.2).1.length ch)).setCell ⟨w.heap.size, 0, none⟩ (.int .i64 a1)).setCell ⟨w.heap.size, 1, none⟩ (.int .i64 a2)).setCell ⟨w.heap.size, 2, none⟩ (.int .i64 a3)).setCell ⟨w.heap.size, 3, none⟩ (.int .i64 (rdN 1 (L s1) T3).1)).setCell ⟨w.heap.size, 4, none⟩ (.int .i64 (rdN 1 (L s2) (rdN 1 (L s1) T3).2.2).1)).setCell ⟨w.heap.size, 5, none⟩ (.string tc)).setCell ⟨w.heap.size, 6, none⟩ (.slice ah (rdS rdK 1 (L s4) (rdT (L s3) (rdN 1 (L s2) (rdN 1 (L s1) T3).2.2).2.2).2.2).1.length ch)).cell? ⟨w.heap.size, 4, none⟩ = some (.int .i64 (rdN 1 (L s2) (rdN 1 (L s1) T3).2.2).1) := cells_of BV 4
    have t5 : ((((((((w6.setCell ⟨w1.heap.size, 6, none⟩ (.slice ah (rdS rdK 1 (L s4) (rdT (L s3) (rdN 1 (L s2) (rdN 1 (L s1) T3).2.2).2.2).2.2).1.length ch)).setCell ⟨w.heap.size, 0, none⟩ (.int .i64 a1)).setCell ⟨w.heap.size, 1, none⟩ (.int .i64 a2)).setCell ⟨w.heap.size, 2, none⟩ (.int .i64 a3)).setCell ⟨w.heap.size, 3, none⟩ (.int .i64 (rdN 1 (L s1) T3).1)).setCell ⟨w.heap.size, 4, none⟩ (.int .i64 (rdN 1 (L s2) (rdN 1 (L s1) T3).2.2).1)).setCell ⟨w.heap.size, 5, none⟩ (.string tc)).setCell ⟨w.heap.size, 6, none⟩ (.slice ah (rdS rdK 1 (L s4) (rdT (L s3) (rdN 1 (L s2) (rdN 1 (L s1) T3).2.2).2.2).2.2).1.length ch)).cell? ⟨w.heap.size, 5, none⟩ = some (.string tc) := cells_of BV 5
    have t6 : ((((((((w6.setCell ⟨w1.heap.size, 6, none⟩ (.slice ah (rdS rdK 1 (L s4) (rdT (L s3) (rdN 1 (L s2) (rdN 1 (L s1) T3).2.2).2.2).2.2).1.length ch)).setCell ⟨w.heap.size, 0, none⟩ (.int .i64 a1)).setCell ⟨w.heap.size, 1, none⟩ (.int .i64 a2)).setCell ⟨w.heap.size, 2, none⟩ (.int .i64 a3)).setCell ⟨w.heap.size, 3, none⟩ (.int .i64 (rdN 1 (L s1) T3).1)).setCell ⟨w.heap.size, 4, none⟩ (.int .i64 (rdN 1 (L s2) (rdN 1 (L s1) T3).2.2).1)).setCell ⟨w.heap.size, 5, none⟩ (.string tc)).setCell ⟨w.heap.size, 6, none⟩ (.slice ah (rdS rdK 1 (L s4) (rdT (L s3) (rdN 1 (L s2) (rdN 1 (L s1) T3).2.2).2.2).2.2).1.length ch)).cell? ⟨w.heap.size, 6, none⟩ = some (.slice ah (rdS rdK 1 (L s4) (rdT (L s3) (rdN 1 (L s2) (rdN 1 (L s1) T3).2.2).2.2).2.2).1.length ch) := cells_of BV 6
    refine bodyPost_ret (v := .agg #[.int .i64 a1, .int .i64 a2, .int .i64 a3, .int .i64 (rdN 1 (L s1) T3).1, .int .i64 (rdN 1 (L s2) (rdN 1 (L s1) T3).2.2).1, .string tc, .slice ah (rdS rdK 1 (L s4) (rdT (L s3) (rdN 1 (L s2) (rdN 1 (L s1) T3).2.2).2.2).2.2).1.length ch]) (by simp [results, Try.results71, go_sem, t0, t1, t2, t3, t4, t5, t6]) rfl ⟨.slice ah (rdS rdK 1 (L s4) (rdT (L s3) (rdN 1 (L s2) (rdN 1 (L s1) T3).2.2).2.2).2.2).1.length ch, s6, by rw [HDF.out], by rw [HDF.out]; exact own_less (own_set (i := 6) (u := .slice ah (rdS rdK 1 (L s4) (rdT (L s3) (rdN 1 (L s2) (rdN 1 (L s1) T3).2.2).2.2).2.2).1.length ch) (own_set (i := 5) (u := .string tc) (own_set (i := 4) (u := .int .i64 (rdN 1 (L s2) (rdN 1 (L s1) T3).2.2).1) (own_set (i := 3) (u := .int .i64 (rdN 1 (L s1) T3).1) (own_set (i := 2) (u := .int .i64 a3) (own_set (i := 1) (u := .int .i64 a2) (own_set (i := 0) (u := .int .i64 a1) OW.out (by omega)) (by omega)) (by omega)) (by omega)) (by omega)) (by omega)) (by omega)) (by omega), by rw [HDF.out], by rw [HDF.out]; exact (((((((R6.out.set_ne hne0).set_ne hne0).set_ne hne0).set_ne hne0).set_ne hne0).set_ne hne0).set_ne hne0), (((((((U6.out.set_new (Nat.le_refl _)).set_new (Nat.le_refl _)).set_new (Nat.le_refl _)).set_new (Nat.le_refl _)).set_new (Nat.le_refl _)).set_new (Nat.le_refl _)).set_new (Nat.le_refl _))⟩
end Go.Proofs.Ytcgloepfnnfioaa
