/-
  WALK of the law on arrays.
-/
import Derived.Test.YtamafgpconfipaaD10
set_option linter.unusedVariables false
set_option linter.unusedSimpArgs false
namespace Go.Proofs.Ytamafgpconfipaa
open Go.RowKit

structure AR (w : World) (X : Nat) (d : Int) (nm : ByteArray) (k : Nat) (b : Bool) (g : Nat) (wx : World) : Prop where
  x : wx.heap[X]? = some (.cells #[.int .i64 (d + k), .string nm] 23 (0, 0))
  t : wx.heap[w.heap.size]? = some (.cells #[.int .i64 d, .string nm] 23 (0, 0))
  ok : (okT d (L nm) = true ∧ d + k ≤ 4) ∨ (okT d (L nm) = false ∧ k = 0)
  fin : b = false → okT d (L nm) = true → d + k = 4
  g : g = if b then 6 - k else 0
  bel : Below w.heap.size w wx
theorem AR.small {w : World} {X : Nat} {d : Int} {nm : ByteArray} {k : Nat} {b : Bool} {g : Nat} {wx : World} (h : AR w X d nm k b g wx) : k ≤ 4 := by
  rcases h.ok with ⟨h1, h2⟩ | ⟨_, h2⟩
  · have := (okT_dims h1).1; omega
  · omega
theorem Elem_back (D : Int) (n : ByteArray) (w : World) (h : okT (D + 1) (L n) = true) (h1 : 1 ≤ D + 1) :
    Calls Try.prog 14 #[.agg #[.int .i64 (D + 1), .string n]] w fun e w' => e = .returned (.tuple #[.agg #[.int .i64 D, .string n], .bool true]) ∧ Below w.heap.size w w' := by
  have := Element_yes (D + 1) n w h h1
  rwa [show D + 1 - 1 = D by omega] at this
theorem Ref_true (D : Int) (n : ByteArray) (w : World) (h : okT (D + 1) (L n) = true) (h1 : 1 ≤ D + 1) :
    Calls Try.prog 18 #[.agg #[.int .i64 (D + 1), .string n]] w fun e w' => e = .returned (.bool true) ∧ Below w.heap.size w w' := by
  have := IsRef_any (D + 1) n w
  rwa [show refT (D + 1) (L n) = true by unfold refT; rw [h, decide_eq_false (by omega)]; rfl] at this

set_option maxRecDepth 1000000 in
set_option maxHeartbeats 6400000 in
theorem arrays_walk (d : Int) (nm : ByteArray) (w : World) (hd1 : -9223372036854775808 ≤ d) (hd2 : d ≤ 9223372036854775807) :
    Calls Try.prog 6 #[.agg #[.int .i64 d, .string nm]] w fun e w' => e = .returned (.bool true) ∧ Below w.heap.size w w' := by
  have hbe := (Below.refl w.heap.size w).alloc (Nat.le_refl _) (.cells #[.int .i64 d, .string nm] 23)
  have HBE := Lib.hid hbe
  clear hbe
  by_cases hn : nm.size ≤ 50000
  · obtain ⟨b, hb⟩ : ∃ b, okT d (L nm) = b := ⟨_, rfl⟩
    have HB := Lib.hid hb
    have HW := fun W => Lib.hid (Write_any d nm W)
    obtain ⟨E, hE⟩ : ∃ E, wrE d (L nm) = E := ⟨_, rfl⟩
    have HE := Lib.hid (show E = if b then 0 else 9 by rw [← hE]; unfold wrE; rw [hb])
    rw [hE] at HW
    generalize wrA d (L nm) = wa at *
    clear hb hE
    go_enter Try.func6, Try.ntmps6
    go_wp2_with fail
    refine (shown_any _).mono ?_
    rintro e w1 ⟨rfl, hb1⟩
    have T1 := Below.keep hb1 (q := w.heap.size) (by simp) (heap_new w _)
    have HB1 := Lib.hid (HBE.out.trans (hb1.mono (by simp)))
    have t0 : w1.cell? ⟨w.heap.size, 0, none⟩ = some (.int .i64 d) := cells_of T1 0
    have t1 : w1.cell? ⟨w.heap.size, 1, none⟩ = some (.string nm) := cells_of T1 1
    have HT1 := Lib.hid T1
    clear T1 hb1
    go_wp2_with fail
    refine (HW _).out.mono ?_
    rintro e w2 ⟨rfl, hb2⟩
    have T2 := Below.keep hb2 (lt_of_block HT1.out) HT1.out
    have HB2 := Lib.hid (HB1.out.trans (hb2.mono HB1.out.size))
    have s0 : w2.cell? ⟨w.heap.size, 0, none⟩ = some (.int .i64 d) := cells_of T2 0
    have s1 : w2.cell? ⟨w.heap.size, 1, none⟩ = some (.string nm) := cells_of T2 1
    have HT2 := Lib.hid T2
    have l2 : w.heap.size < w2.heap.size := lt_of_block T2
    clear T2 hb2 t0 t1 HB1 HT1
    have HAR : AR w w2.heap.size d nm 0 true 6 (w2.alloc (.cells #[.int .i64 d, .string nm] 23)) :=
      ⟨by have := heap_new w2 (.cells #[.int .i64 d, .string nm] 23); simpa using this, heap_alloc_lt HT2.out, by
        cases h : okT d (L nm) with
        | true => exact .inl ⟨rfl, by have := (okT_dims h).2; simp; omega⟩
        | false => exact .inr ⟨rfl, rfl⟩, by simp, rfl, HB2.out.alloc (by omega) _⟩
    have HAR := Lib.hid HAR
    go_wp2
    generalize hXe : w2.heap.size = X at *
    have hwX : w.heap.size < X := by omega
    go_loopg [6, 8] 6 (fun g n ok wx => ∃ (k : Nat) (c : Bool), n = .int .i64 k ∧ ok = .bool c ∧ AR w X d nm k c g wx)
    case atStart => exact ⟨0, true, rfl, rfl, HAR.out⟩
    case round =>
      obtain ⟨k, c, rfl, rfl, har⟩ := hrel
      have HA := Lib.hid har
      have hk4 := har.small
      have z1 := lt_of_block har.x
      have z2 := lt_of_block har.t
      have x0 : wr.cell? ⟨X, 0, none⟩ = some (.int .i64 (d + (k : Int))) := cells_of har.x 0
      have x1 : wr.cell? ⟨X, 1, none⟩ = some (.string nm) := cells_of har.x 1
      have t0 : wr.cell? ⟨w.heap.size, 0, none⟩ = some (.int .i64 d) := cells_of har.t 0
      have hkz : (k : Int) < 10 := by omega
      cases c with
      | false =>
        cases b with
        | true =>
          have hdk := Lib.hid (HA.out.fin rfl HB.out)
          have HE0 := HE.out
          simp only [if_true] at HE0
          subst HE0
          have hdd := okT_dims HB.out
          have hkd : ((k : Int) == 4 - d) = true := by have := hdk.out; rw [beq_iff_eq]; omega
          obtain ⟨hd3, hd4⟩ := hdd
          clear har
          go_wp2
          go_ret
          exact ⟨rfl, HA.out.bel⟩
        | false =>
          have hk0 : k = 0 := by
            rcases HA.out.ok with ⟨h, _⟩ | ⟨_, h⟩
            · rw [HB.out] at h; exact absurd h (by simp)
            · exact h
          subst hk0
          have HE0 := HE.out
          simp only [Bool.false_eq_true, if_false] at HE0
          subst HE0
          clear har
          go_wp2
          go_ret
          exact ⟨rfl, HA.out.bel⟩
      | true =>
        have hgk := HA.out.g
        simp only [if_true] at hgk
        obtain ⟨D, hD⟩ : ∃ D, d + (k : Int) = D := ⟨_, rfl⟩
        rw [hD] at x0
        have HD := Lib.hid hD
        by_cases hyes : okT d (L nm) = true ∧ D ≤ 3
        · have hD0 := (okT_dims hyes.1).1
          have okD : okT D (L nm) = true := (okT_iff _ _).2 ⟨by omega, by omega, ((okT_iff _ _).1 hyes.1).2.2⟩
          have okD1 : okT (D + 1) (L nm) = true := (okT_iff _ _).2 ⟨by omega, by omega, ((okT_iff _ _).1 hyes.1).2.2⟩
          have C1 := fun W => Lib.hid (ArrayOf_yes D nm W okD hyes.2)
          have C2 := fun W => Lib.hid (Elem_back D nm W okD1 (by omega))
          have C3 := fun W => Lib.hid (Ref_true D nm W okD1 (by omega))
          have hDl : D ≤ 3 := hyes.2
          have hDg : 0 ≤ D := by omega
          have HK := Lib.hid hyes.1
          have hgk' : 5 - k < gk := by omega
          clear har hD hyes okD okD1 hgk hD0
          go_wp2_with fail
          refine (C1 _).out.mono ?_
          rintro e v1 ⟨rfl, hb1⟩
          have X1 := Lib.hid (Below.keep hb1 z1 HA.out.x)
          have R1 := Lib.hid (Below.keep hb1 z2 HA.out.t)
          have HB1 := Lib.hid (HA.out.bel.trans (hb1.mono HA.out.bel.size))
          have y1 : X < v1.heap.size := lt_of_block X1.out
          clear hb1 x0 x1 t0
          go_wp2_with fail
          refine (C2 _).out.mono ?_
          rintro e v2 ⟨rfl, hb2⟩
          have X2 := Lib.hid (Below.keep hb2 (by simp; omega) (heap_alloc_lt X1.out))
          have R2 := Lib.hid (Below.keep hb2 (by simp; omega) (heap_alloc_lt R1.out))
          have Y2 := Lib.hid (Below.keep hb2 (by simp) (heap_new v1 _))
          have HB2 := Lib.hid ((HB1.out.alloc (by omega) _).trans (hb2.mono (by simp; omega)))
          have y2 : v1.heap.size < v2.heap.size := lt_of_block Y2.out
          have y3 : X < v2.heap.size := by omega
          have x20 : v2.cell? ⟨X, 0, none⟩ = some (.int .i64 D) := by have := cells_of X2.out 0; rw [HD.out] at this; exact this
          have x21 : v2.cell? ⟨X, 1, none⟩ = some (.string nm) := cells_of X2.out 1
          have y20 : v2.cell? ⟨v1.heap.size, 0, none⟩ = some (.int .i64 (D + 1)) := cells_of Y2.out 0
          have y21 : v2.cell? ⟨v1.heap.size, 1, none⟩ = some (.string nm) := cells_of Y2.out 1
          clear hb2
          go_wp2_with fail
          refine (C3 _).out.mono ?_
          rintro e v3 ⟨rfl, hb3⟩
          have X3 := Lib.hid (Below.keep hb3 (by simp; omega) (heap_alloc_lt X2.out))
          have R3 := Lib.hid (Below.keep hb3 (by simp; omega) (heap_alloc_lt R2.out))
          have Y3 := Lib.hid (Below.keep hb3 (by simp; omega) (heap_alloc_lt Y2.out))
          have HB3 := Lib.hid ((HB2.out.alloc (by omega) _).trans (hb3.mono (by simp; omega)))
          have y4 : v1.heap.size < v3.heap.size := lt_of_block Y3.out
          have x30 : v3.cell? ⟨X, 0, none⟩ = some (.int .i64 D) := by have := cells_of X3.out 0; rw [HD.out] at this; exact this
          have x31 : v3.cell? ⟨X, 1, none⟩ = some (.string nm) := cells_of X3.out 1
          have f30 := free_of X3.out 0
          have f31 := free_of X3.out 1
          have y30 : v3.cell? ⟨v1.heap.size, 0, none⟩ = some (.int .i64 (D + 1)) := cells_of Y3.out 0
          have y31 : v3.cell? ⟨v1.heap.size, 1, none⟩ = some (.string nm) := cells_of Y3.out 1
          have HAN : AR w X d nm (k + 1) true (5 - k) ((v3.setCell ⟨X, 0, none⟩ (.int .i64 (D + 1))).setCell ⟨X, 1, none⟩ (.string nm)) := by
            have hx := cells_setCell (i := 1) (u := .string nm) (cells_setCell (i := 0) (u := .int .i64 (D + 1)) X3.out)
            refine ⟨?_, heap_setCell_ne (by simp; omega) (heap_setCell_ne (by simp; omega) R3.out), .inl ⟨HK.out, by have := HD.out; omega⟩, by simp, by simp, (HB3.out.setCell (by show w.heap.size ≤ X; omega) _).setCell (by show w.heap.size ≤ X; omega) _⟩
            have e : d + ((k + 1 : Nat) : Int) = D + 1 := by have := HD.out; omega
            rw [e]
            exact hx
          have HAN := Lib.hid HAN
          clear hb3 x20 x21 y20 y21
          go_wp2
          go_roundg (5 - k)
          case measure => exact hgk'
          case rel => exact ⟨k + 1, true, by go_num, rfl, HAN.out⟩
        · have hA : arV D nm = .tuple #[.agg #[.int .i64 0, .string ⟨#[]⟩], .bool false] := by
            unfold arV
            rw [if_neg]
            rintro ⟨h1, h2⟩
            rcases HA.out.ok with ⟨h3, h4⟩ | ⟨h3, h4⟩
            · exact hyes ⟨h3, h2⟩
            · rw [h4] at hD
              rw [← hD] at h1
              simp at h1
              rw [h3] at h1
              exact absurd h1 (by simp)
          have C1 := fun W => Lib.hid (ArrayOf_any D nm W)
          rw [hA] at C1
          have hgk' : 0 < gk := by omega
          have HFIN := Lib.hid (show okT d (L nm) = true → d + (k : Int) = 4 from fun h => by
            rcases HA.out.ok with ⟨h3, h4⟩ | ⟨h3, h4⟩
            · have : ¬ D ≤ 3 := fun h' => hyes ⟨h, h'⟩
              omega
            · rw [h3] at h; exact absurd h (by simp))
          clear har hD hyes hgk hA
          go_wp2_with fail
          refine (C1 _).out.mono ?_
          rintro e v1 ⟨rfl, hb1⟩
          have X1 := Lib.hid (Below.keep hb1 z1 HA.out.x)
          have R1 := Lib.hid (Below.keep hb1 z2 HA.out.t)
          have HB1 := Lib.hid (HA.out.bel.trans (hb1.mono HA.out.bel.size))
          have HAN : AR w X d nm k false 0 (v1.alloc (.cells #[.int .i64 0, .string ⟨#[]⟩] 23)) :=
            ⟨heap_alloc_lt X1.out, heap_alloc_lt R1.out, HA.out.ok, fun _ h => HFIN.out h, rfl, HB1.out.alloc (by have := HB1.out.size; omega) _⟩
          have HAN := Lib.hid HAN
          clear hb1
          go_wp2
          go_roundg 0
          case measure => exact hgk'
          case rel => exact ⟨k, false, rfl, rfl, HAN.out⟩
  · have h5 : (50000 : Int) < (nm.size : Int) := by omega
    go_enter Try.func6, Try.ntmps6
    go_wp2_with fail
    refine (shown_any _).mono ?_
    rintro e w1 ⟨rfl, hb1⟩
    have T1 := Below.keep hb1 (q := w.heap.size) (by simp) (heap_new w _)
    have HB1 := Lib.hid (HBE.out.trans (hb1.mono (by simp)))
    have t1 : w1.cell? ⟨w.heap.size, 1, none⟩ = some (.string nm) := cells_of T1 1
    clear T1 hb1
    go_wp2
    go_ret
    exact ⟨rfl, HB1.out⟩
end Go.Proofs.Ytamafgpconfipaa
