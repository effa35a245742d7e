/-
  CUT and joined from the texts of this seat: E4
-/
import Derived.Test.YtmaknddlgppinaaGreatDoorZ21
set_option linter.unusedVariables false
set_option linter.unusedSimpArgs false
namespace Go.Proofs.YtmaknddlgppinaaGreatDoor
open Go.RowKit
/-- The error of a file's flags, of the class, the one above it and the interfaces. -/
def classE (f : Fl) : Int :=
 if f.fl = 0 ∨ f.fl = 2 ∨ f.fl = 3 then
  (if tagged f.pool f.this 4 = true then (if noneB f.pool f.super = true then
   (if 16 < f.ifs.length then 3 else if f.ifs.all (fun i => tagged f.pool i 4) = true then 0 else 7) else 7) else 7)
 else 10
theorem all_next {α : Type} {g : α → Bool} {l : List α} {k : Nat} {x : α} (hx : l[k]? = some x) (h : (l.take k).all g = true) : (l.take (k + 1)).all g = g x := by
 obtain ⟨hk, rfl⟩ := List.getElem?_eq_some_iff.1 hx
 rw [List.take_succ_eq_append_getElem hk, List.all_append, h]
 simp
theorem all_false_of {α : Type} {g : α → Bool} {l : List α} {k : Nat} {x : α} (hx : l[k]? = some x) (h : g x = false) : l.all g = false := by
 rw [List.all_eq_false]
 exact ⟨x, List.mem_of_getElem? hx, by rw [h]; simp⟩
set_option maxRecDepth 1000000 in
set_option maxHeartbeats 6400000 in
theorem classErr_0 {B : Nat} (f : Fl) (v : Value) (w : World) (hf : FileAt B w v f) (hB : B ≤ w.heap.size) (hq : f.fl = 0) :
  Calls Tryz.prog 149 #[v] w fun e w' => e = .returned (.int .i64 (classE f)) ∧ Below w.heap.size w w' := by
 obtain ⟨hmax, hmi, -, -⟩ := hf.max
 have HE2 := Lib.hid (show classE f = (if tagged f.pool f.this 4 = true then (if noneB f.pool f.super = true then
   (if 16 < f.ifs.length then 3 else if f.ifs.all (fun i => tagged f.pool i 4) = true then 0 else 7) else 7) else 7) by unfold classE; rw [if_pos (by omega)])
 generalize classE f = R at *
 obtain ⟨Ap, cp, Ai, ci, Af, cf, Am, cm, rfl, hi⟩ := id hf
 have BE0 := Lib.hid ((Below.refl w.heap.size w).alloc (Nat.le_refl _) (.cells #[.slice Ap f.pool.length cp, .int .i64 f.fl, .int .i64 f.this, .int .i64 f.super, .slice Ai f.ifs.length ci, .slice Af f.fds.length cf, .slice Am f.mts.length cm] 94))
 have FL0 := Lib.hid (hf.alloc hB (.cells #[.slice Ap f.pool.length cp, .int .i64 f.fl, .int .i64 f.this, .int .i64 f.super, .slice Ai f.ifs.length ci, .slice Af f.fds.length cf, .slice Am f.mts.length cm] 94))
 have BX0 := Lib.hid (heap_new w (.cells #[.slice Ap f.pool.length cp, .int .i64 f.fl, .int .i64 f.this, .int .i64 f.super, .slice Ai f.ifs.length ci, .slice Af f.fds.length cf, .slice Am f.mts.length cm] 94))
 have HT := Lib.hid (fun r V W hW hWB h => has_at (B := B) r f V W hW hWB f.this 4 h)
 have HN := Lib.hid (fun r V W hW hWB h => none_at (B := B) r f V W hW hWB f.super h)
 have HF := Lib.hid (fun r V W hW hWB i h => has_at (B := B) r f V W hW hWB i 4 h)
 have HI := Lib.hid hi.ifs
 clear hi hf
 generalize f.fl = fl at *
 subst hq
 cases hT : tagged f.pool f.this 4 with
 | false =>
  have HTT := Lib.hid hT
  clear hT
  go_enter Tryz.func149, Tryz.ntmps149
  go_wp2_with fail
  refine (HT.out false _ _ FL0.out (by simp; omega) HTT.out).mono ?_
  rintro e w1 ⟨rfl, hb⟩
  have BE1 := Lib.hid (Below.link BE0.out hb)
  have BX1 := Lib.hid (Below.keep hb (by have := lt_of_block BX0.out; omega) BX0.out)
  have FL1 := Lib.hid (FL0.out.below hb (Nat.le_trans hB BE0.out.size))
  have lt1 := lt_of_block BX1.out
  clear hb
  have c0 : w1.cell? ⟨w.heap.size, 0, none⟩ = some (.slice Ap f.pool.length cp) := cells_of BX1.out 0
  have c1 : w1.cell? ⟨w.heap.size, 1, none⟩ = some (.int .i64 0) := cells_of BX1.out 1
  have c2 : w1.cell? ⟨w.heap.size, 2, none⟩ = some (.int .i64 f.this) := cells_of BX1.out 2
  have c3 : w1.cell? ⟨w.heap.size, 3, none⟩ = some (.int .i64 f.super) := cells_of BX1.out 3
  have c4 : w1.cell? ⟨w.heap.size, 4, none⟩ = some (.slice Ai f.ifs.length ci) := cells_of BX1.out 4
  have c5 : w1.cell? ⟨w.heap.size, 5, none⟩ = some (.slice Af f.fds.length cf) := cells_of BX1.out 5
  have c6 : w1.cell? ⟨w.heap.size, 6, none⟩ = some (.slice Am f.mts.length cm) := cells_of BX1.out 6
  go_wp2
  go_ret
  exact ⟨ret_i (by rw [HE2.out, HTT.out]; simp), BE1.out⟩
 | true =>
  have HTT := Lib.hid hT
  clear hT
  cases hN : noneB f.pool f.super with
  | false =>
   have HNN := Lib.hid hN
   clear hN
   go_enter Tryz.func149, Tryz.ntmps149
   go_wp2_with fail
   refine (HT.out true _ _ FL0.out (by simp; omega) HTT.out).mono ?_
   rintro e w1 ⟨rfl, hb⟩
   have BE1 := Lib.hid (Below.link BE0.out hb)
   have BX1 := Lib.hid (Below.keep hb (by have := lt_of_block BX0.out; omega) BX0.out)
   have FL1 := Lib.hid (FL0.out.below hb (Nat.le_trans hB BE0.out.size))
   have lt1 := lt_of_block BX1.out
   clear hb
   have c0 : w1.cell? ⟨w.heap.size, 0, none⟩ = some (.slice Ap f.pool.length cp) := cells_of BX1.out 0
   have c1 : w1.cell? ⟨w.heap.size, 1, none⟩ = some (.int .i64 0) := cells_of BX1.out 1
   have c2 : w1.cell? ⟨w.heap.size, 2, none⟩ = some (.int .i64 f.this) := cells_of BX1.out 2
   have c3 : w1.cell? ⟨w.heap.size, 3, none⟩ = some (.int .i64 f.super) := cells_of BX1.out 3
   have c4 : w1.cell? ⟨w.heap.size, 4, none⟩ = some (.slice Ai f.ifs.length ci) := cells_of BX1.out 4
   have c5 : w1.cell? ⟨w.heap.size, 5, none⟩ = some (.slice Af f.fds.length cf) := cells_of BX1.out 5
   have c6 : w1.cell? ⟨w.heap.size, 6, none⟩ = some (.slice Am f.mts.length cm) := cells_of BX1.out 6
   go_wp2_with fail
   refine (HN.out false _ _ FL1.out (by omega) HNN.out).mono ?_
   rintro e w2 ⟨rfl, hb⟩
   have BE2 := Lib.hid (Below.link BE1.out hb)
   have BX2 := Lib.hid (Below.keep hb (by have := lt_of_block BX1.out; omega) BX1.out)
   have FL2 := Lib.hid (FL1.out.below hb (Nat.le_trans hB BE1.out.size))
   have lt2 := lt_of_block BX2.out
   clear c0 c1 c2 c3 c4 c5 c6
   clear hb
   have c0 : w2.cell? ⟨w.heap.size, 0, none⟩ = some (.slice Ap f.pool.length cp) := cells_of BX2.out 0
   have c1 : w2.cell? ⟨w.heap.size, 1, none⟩ = some (.int .i64 0) := cells_of BX2.out 1
   have c2 : w2.cell? ⟨w.heap.size, 2, none⟩ = some (.int .i64 f.this) := cells_of BX2.out 2
   have c3 : w2.cell? ⟨w.heap.size, 3, none⟩ = some (.int .i64 f.super) := cells_of BX2.out 3
   have c4 : w2.cell? ⟨w.heap.size, 4, none⟩ = some (.slice Ai f.ifs.length ci) := cells_of BX2.out 4
   have c5 : w2.cell? ⟨w.heap.size, 5, none⟩ = some (.slice Af f.fds.length cf) := cells_of BX2.out 5
   have c6 : w2.cell? ⟨w.heap.size, 6, none⟩ = some (.slice Am f.mts.length cm) := cells_of BX2.out 6
   go_wp2
   go_ret
   exact ⟨ret_i (by rw [HE2.out, HTT.out, HNN.out]; simp), BE2.out⟩
  | true =>
   have HNN := Lib.hid hN
   clear hN
   by_cases hl16 : 16 < f.ifs.length
   ·have hl : (16 : Int) < f.ifs.length := by omega
    go_enter Tryz.func149, Tryz.ntmps149
    go_wp2_with fail
    refine (HT.out true _ _ FL0.out (by simp; omega) HTT.out).mono ?_
    rintro e w1 ⟨rfl, hb⟩
    have BE1 := Lib.hid (Below.link BE0.out hb)
    have BX1 := Lib.hid (Below.keep hb (by have := lt_of_block BX0.out; omega) BX0.out)
    have FL1 := Lib.hid (FL0.out.below hb (Nat.le_trans hB BE0.out.size))
    have lt1 := lt_of_block BX1.out
    clear hb
    have c0 : w1.cell? ⟨w.heap.size, 0, none⟩ = some (.slice Ap f.pool.length cp) := cells_of BX1.out 0
    have c1 : w1.cell? ⟨w.heap.size, 1, none⟩ = some (.int .i64 0) := cells_of BX1.out 1
    have c2 : w1.cell? ⟨w.heap.size, 2, none⟩ = some (.int .i64 f.this) := cells_of BX1.out 2
    have c3 : w1.cell? ⟨w.heap.size, 3, none⟩ = some (.int .i64 f.super) := cells_of BX1.out 3
    have c4 : w1.cell? ⟨w.heap.size, 4, none⟩ = some (.slice Ai f.ifs.length ci) := cells_of BX1.out 4
    have c5 : w1.cell? ⟨w.heap.size, 5, none⟩ = some (.slice Af f.fds.length cf) := cells_of BX1.out 5
    have c6 : w1.cell? ⟨w.heap.size, 6, none⟩ = some (.slice Am f.mts.length cm) := cells_of BX1.out 6
    go_wp2_with fail
    refine (HN.out true _ _ FL1.out (by omega) HNN.out).mono ?_
    rintro e w2 ⟨rfl, hb⟩
    have BE2 := Lib.hid (Below.link BE1.out hb)
    have BX2 := Lib.hid (Below.keep hb (by have := lt_of_block BX1.out; omega) BX1.out)
    have FL2 := Lib.hid (FL1.out.below hb (Nat.le_trans hB BE1.out.size))
    have lt2 := lt_of_block BX2.out
    clear c0 c1 c2 c3 c4 c5 c6
    clear hb
    have c0 : w2.cell? ⟨w.heap.size, 0, none⟩ = some (.slice Ap f.pool.length cp) := cells_of BX2.out 0
    have c1 : w2.cell? ⟨w.heap.size, 1, none⟩ = some (.int .i64 0) := cells_of BX2.out 1
    have c2 : w2.cell? ⟨w.heap.size, 2, none⟩ = some (.int .i64 f.this) := cells_of BX2.out 2
    have c3 : w2.cell? ⟨w.heap.size, 3, none⟩ = some (.int .i64 f.super) := cells_of BX2.out 3
    have c4 : w2.cell? ⟨w.heap.size, 4, none⟩ = some (.slice Ai f.ifs.length ci) := cells_of BX2.out 4
    have c5 : w2.cell? ⟨w.heap.size, 5, none⟩ = some (.slice Af f.fds.length cf) := cells_of BX2.out 5
    have c6 : w2.cell? ⟨w.heap.size, 6, none⟩ = some (.slice Am f.mts.length cm) := cells_of BX2.out 6
    go_wp2
    go_ret
    exact ⟨ret_i (by rw [HE2.out, HTT.out, HNN.out]; simp [hl16]), BE2.out⟩
   ·have hl : (f.ifs.length : Int) ≤ 16 := by omega
    have HE3 := Lib.hid (show R = if f.ifs.all (fun i => tagged f.pool i 4) = true then 0 else 7 by rw [HE2.out, HTT.out, HNN.out]; simp [hl16])
    clear hl16
    go_enter Tryz.func149, Tryz.ntmps149
    go_wp2_with fail
    refine (HT.out true _ _ FL0.out (by simp; omega) HTT.out).mono ?_
    rintro e w1 ⟨rfl, hb⟩
    have BE1 := Lib.hid (Below.link BE0.out hb)
    have BX1 := Lib.hid (Below.keep hb (by have := lt_of_block BX0.out; omega) BX0.out)
    have FL1 := Lib.hid (FL0.out.below hb (Nat.le_trans hB BE0.out.size))
    have lt1 := lt_of_block BX1.out
    clear hb
    have c0 : w1.cell? ⟨w.heap.size, 0, none⟩ = some (.slice Ap f.pool.length cp) := cells_of BX1.out 0
    have c1 : w1.cell? ⟨w.heap.size, 1, none⟩ = some (.int .i64 0) := cells_of BX1.out 1
    have c2 : w1.cell? ⟨w.heap.size, 2, none⟩ = some (.int .i64 f.this) := cells_of BX1.out 2
    have c3 : w1.cell? ⟨w.heap.size, 3, none⟩ = some (.int .i64 f.super) := cells_of BX1.out 3
    have c4 : w1.cell? ⟨w.heap.size, 4, none⟩ = some (.slice Ai f.ifs.length ci) := cells_of BX1.out 4
    have c5 : w1.cell? ⟨w.heap.size, 5, none⟩ = some (.slice Af f.fds.length cf) := cells_of BX1.out 5
    have c6 : w1.cell? ⟨w.heap.size, 6, none⟩ = some (.slice Am f.mts.length cm) := cells_of BX1.out 6
    go_wp2_with fail
    refine (HN.out true _ _ FL1.out (by omega) HNN.out).mono ?_
    rintro e w2 ⟨rfl, hb⟩
    have BE2 := Lib.hid (Below.link BE1.out hb)
    have BX2 := Lib.hid (Below.keep hb (by have := lt_of_block BX1.out; omega) BX1.out)
    have FL2 := Lib.hid (FL1.out.below hb (Nat.le_trans hB BE1.out.size))
    have lt2 := lt_of_block BX2.out
    clear c0 c1 c2 c3 c4 c5 c6
    clear hb
    have c0 : w2.cell? ⟨w.heap.size, 0, none⟩ = some (.slice Ap f.pool.length cp) := cells_of BX2.out 0
    have c1 : w2.cell? ⟨w.heap.size, 1, none⟩ = some (.int .i64 0) := cells_of BX2.out 1
    have c2 : w2.cell? ⟨w.heap.size, 2, none⟩ = some (.int .i64 f.this) := cells_of BX2.out 2
    have c3 : w2.cell? ⟨w.heap.size, 3, none⟩ = some (.int .i64 f.super) := cells_of BX2.out 3
    have c4 : w2.cell? ⟨w.heap.size, 4, none⟩ = some (.slice Ai f.ifs.length ci) := cells_of BX2.out 4
    have c5 : w2.cell? ⟨w.heap.size, 5, none⟩ = some (.slice Af f.fds.length cf) := cells_of BX2.out 5
    have c6 : w2.cell? ⟨w.heap.size, 6, none⟩ = some (.slice Am f.mts.length cm) := cells_of BX2.out 6
    go_wp2
    go_loopg [30] f.ifs.length (fun g iv wx => ∃ k : Nat, iv = .int .i64 k ∧ k + g = f.ifs.length ∧ (f.ifs.take k).all (fun i => tagged f.pool i 4) = true ∧ wx.heap[w.heap.size]? = some (.cells #[.slice Ap f.pool.length cp, .int .i64 0, .int .i64 f.this, .int .i64 f.super, .slice Ai f.ifs.length ci, .slice Af f.fds.length cf, .slice Am f.mts.length cm] 94 (0, 0)) ∧ FileAt B wx (.agg #[.slice Ap f.pool.length cp, .int .i64 0, .int .i64 f.this, .int .i64 f.super, .slice Ai f.ifs.length ci, .slice Af f.fds.length cf, .slice Am f.mts.length cm]) f ∧ Below w.heap.size w wx)
    case atStart => exact ⟨0, rfl, by omega, by simp, BX2.out, FL2.out, BE2.out⟩
    case round =>
     obtain ⟨k, rfl, hkg, hall, hbox, hfile, hbel⟩ := hrel
     have HALL := Lib.hid hall
     have BX3 := Lib.hid hbox
     have FL3 := Lib.hid hfile
     have BE3 := Lib.hid hbel
     have hlb := lt_of_block hbox
     clear hall hbox hfile hbel c0 c1 c2 c3 c4 c5 c6
     have c0 : wr.cell? ⟨w.heap.size, 0, none⟩ = some (.slice Ap f.pool.length cp) := cells_of BX3.out 0
     have c1 : wr.cell? ⟨w.heap.size, 1, none⟩ = some (.int .i64 0) := cells_of BX3.out 1
     have c2 : wr.cell? ⟨w.heap.size, 2, none⟩ = some (.int .i64 f.this) := cells_of BX3.out 2
     have c3 : wr.cell? ⟨w.heap.size, 3, none⟩ = some (.int .i64 f.super) := cells_of BX3.out 3
     have c4 : wr.cell? ⟨w.heap.size, 4, none⟩ = some (.slice Ai f.ifs.length ci) := cells_of BX3.out 4
     have c5 : wr.cell? ⟨w.heap.size, 5, none⟩ = some (.slice Af f.fds.length cf) := cells_of BX3.out 5
     have c6 : wr.cell? ⟨w.heap.size, 6, none⟩ = some (.slice Am f.mts.length cm) := cells_of BX3.out 6
     by_cases hk : k < f.ifs.length
     ·have hgg : gk - 1 < gk := by omega
      obtain ⟨x, hx⟩ : ∃ x, f.ifs[k]? = some x := ⟨_, List.getElem?_eq_getElem hk⟩
      obtain ⟨b, o, rfl, hbb, x0⟩ := (show IRow B wr _ f.ifs from Row.keep HI.out fun p hp => BE3.out.cell (p := p) (by omega)).at_ hx
      cases htx : tagged f.pool x 4 with
      | true =>
       have HNX := Lib.hid ((all_next hx HALL.out).trans htx)
       have HTX := Lib.hid htx
       clear htx hx
       go_wp2_with fail
       refine (HF.out true _ _ FL3.out (by omega) _ HTX.out).mono ?_
       rintro e w4 ⟨rfl, hb⟩
       have BE4 := Lib.hid (Below.link BE3.out hb)
       have BX4 := Lib.hid (Below.keep hb hlb BX3.out)
       have FL4 := Lib.hid (FL3.out.below hb (by omega))
       clear hb c0 c1 c2 c3 c4 c5 c6 x0
       go_wp2
       go_roundg (gk - 1)
       case measure => exact hgg
       case rel => exact ⟨k + 1, by go_num, by omega, HNX.out, BX4.out, FL4.out, BE4.out⟩
      | false =>
       have HNX := Lib.hid (all_false_of (g := fun i => tagged f.pool i 4) hx htx)
       have HTX := Lib.hid htx
       clear htx hx
       go_wp2_with fail
       refine (HF.out false _ _ FL3.out (by omega) _ HTX.out).mono ?_
       rintro e w4 ⟨rfl, hb⟩
       have BE4 := Lib.hid (Below.link BE3.out hb)
       clear hb c0 c1 c2 c3 c4 c5 c6 x0
       go_wp2
       go_ret
       exact ⟨ret_i (by rw [HE3.out, HNX.out]; rfl), BE4.out⟩
     ·have HA := Lib.hid (show f.ifs.all (fun i => tagged f.pool i 4) = true by have := HALL.out; rwa [List.take_of_length_le (by omega)] at this)
      go_wp2
      go_ret
      exact ⟨ret_i (by rw [HE3.out, HA.out]; rfl), BE3.out⟩
set_option maxRecDepth 1000000 in
set_option maxHeartbeats 6400000 in
theorem classErr_2 {B : Nat} (f : Fl) (v : Value) (w : World) (hf : FileAt B w v f) (hB : B ≤ w.heap.size) (hq : f.fl = 2) :
  Calls Tryz.prog 149 #[v] w fun e w' => e = .returned (.int .i64 (classE f)) ∧ Below w.heap.size w w' := by
 obtain ⟨hmax, hmi, -, -⟩ := hf.max
 have HE2 := Lib.hid (show classE f = (if tagged f.pool f.this 4 = true then (if noneB f.pool f.super = true then
   (if 16 < f.ifs.length then 3 else if f.ifs.all (fun i => tagged f.pool i 4) = true then 0 else 7) else 7) else 7) by unfold classE; rw [if_pos (by omega)])
 generalize classE f = R at *
 obtain ⟨Ap, cp, Ai, ci, Af, cf, Am, cm, rfl, hi⟩ := id hf
 have BE0 := Lib.hid ((Below.refl w.heap.size w).alloc (Nat.le_refl _) (.cells #[.slice Ap f.pool.length cp, .int .i64 f.fl, .int .i64 f.this, .int .i64 f.super, .slice Ai f.ifs.length ci, .slice Af f.fds.length cf, .slice Am f.mts.length cm] 94))
 have FL0 := Lib.hid (hf.alloc hB (.cells #[.slice Ap f.pool.length cp, .int .i64 f.fl, .int .i64 f.this, .int .i64 f.super, .slice Ai f.ifs.length ci, .slice Af f.fds.length cf, .slice Am f.mts.length cm] 94))
 have BX0 := Lib.hid (heap_new w (.cells #[.slice Ap f.pool.length cp, .int .i64 f.fl, .int .i64 f.this, .int .i64 f.super, .slice Ai f.ifs.length ci, .slice Af f.fds.length cf, .slice Am f.mts.length cm] 94))
 have HT := Lib.hid (fun r V W hW hWB h => has_at (B := B) r f V W hW hWB f.this 4 h)
 have HN := Lib.hid (fun r V W hW hWB h => none_at (B := B) r f V W hW hWB f.super h)
 have HF := Lib.hid (fun r V W hW hWB i h => has_at (B := B) r f V W hW hWB i 4 h)
 have HI := Lib.hid hi.ifs
 clear hi hf
 generalize f.fl = fl at *
 subst hq
 cases hT : tagged f.pool f.this 4 with
 | false =>
  have HTT := Lib.hid hT
  clear hT
  go_enter Tryz.func149, Tryz.ntmps149
  go_wp2_with fail
  refine (HT.out false _ _ FL0.out (by simp; omega) HTT.out).mono ?_
  rintro e w1 ⟨rfl, hb⟩
  have BE1 := Lib.hid (Below.link BE0.out hb)
  have BX1 := Lib.hid (Below.keep hb (by have := lt_of_block BX0.out; omega) BX0.out)
  have FL1 := Lib.hid (FL0.out.below hb (Nat.le_trans hB BE0.out.size))
  have lt1 := lt_of_block BX1.out
  clear hb
  have c0 : w1.cell? ⟨w.heap.size, 0, none⟩ = some (.slice Ap f.pool.length cp) := cells_of BX1.out 0
  have c1 : w1.cell? ⟨w.heap.size, 1, none⟩ = some (.int .i64 2) := cells_of BX1.out 1
  have c2 : w1.cell? ⟨w.heap.size, 2, none⟩ = some (.int .i64 f.this) := cells_of BX1.out 2
  have c3 : w1.cell? ⟨w.heap.size, 3, none⟩ = some (.int .i64 f.super) := cells_of BX1.out 3
  have c4 : w1.cell? ⟨w.heap.size, 4, none⟩ = some (.slice Ai f.ifs.length ci) := cells_of BX1.out 4
  have c5 : w1.cell? ⟨w.heap.size, 5, none⟩ = some (.slice Af f.fds.length cf) := cells_of BX1.out 5
  have c6 : w1.cell? ⟨w.heap.size, 6, none⟩ = some (.slice Am f.mts.length cm) := cells_of BX1.out 6
  go_wp2
  go_ret
  exact ⟨ret_i (by rw [HE2.out, HTT.out]; simp), BE1.out⟩
 | true =>
  have HTT := Lib.hid hT
  clear hT
  cases hN : noneB f.pool f.super with
  | false =>
   have HNN := Lib.hid hN
   clear hN
   go_enter Tryz.func149, Tryz.ntmps149
   go_wp2_with fail
   refine (HT.out true _ _ FL0.out (by simp; omega) HTT.out).mono ?_
   rintro e w1 ⟨rfl, hb⟩
   have BE1 := Lib.hid (Below.link BE0.out hb)
   have BX1 := Lib.hid (Below.keep hb (by have := lt_of_block BX0.out; omega) BX0.out)
   have FL1 := Lib.hid (FL0.out.below hb (Nat.le_trans hB BE0.out.size))
   have lt1 := lt_of_block BX1.out
   clear hb
   have c0 : w1.cell? ⟨w.heap.size, 0, none⟩ = some (.slice Ap f.pool.length cp) := cells_of BX1.out 0
   have c1 : w1.cell? ⟨w.heap.size, 1, none⟩ = some (.int .i64 2) := cells_of BX1.out 1
   have c2 : w1.cell? ⟨w.heap.size, 2, none⟩ = some (.int .i64 f.this) := cells_of BX1.out 2
   have c3 : w1.cell? ⟨w.heap.size, 3, none⟩ = some (.int .i64 f.super) := cells_of BX1.out 3
   have c4 : w1.cell? ⟨w.heap.size, 4, none⟩ = some (.slice Ai f.ifs.length ci) := cells_of BX1.out 4
   have c5 : w1.cell? ⟨w.heap.size, 5, none⟩ = some (.slice Af f.fds.length cf) := cells_of BX1.out 5
   have c6 : w1.cell? ⟨w.heap.size, 6, none⟩ = some (.slice Am f.mts.length cm) := cells_of BX1.out 6
   go_wp2_with fail
   refine (HN.out false _ _ FL1.out (by omega) HNN.out).mono ?_
   rintro e w2 ⟨rfl, hb⟩
   have BE2 := Lib.hid (Below.link BE1.out hb)
   have BX2 := Lib.hid (Below.keep hb (by have := lt_of_block BX1.out; omega) BX1.out)
   have FL2 := Lib.hid (FL1.out.below hb (Nat.le_trans hB BE1.out.size))
   have lt2 := lt_of_block BX2.out
   clear c0 c1 c2 c3 c4 c5 c6
   clear hb
   have c0 : w2.cell? ⟨w.heap.size, 0, none⟩ = some (.slice Ap f.pool.length cp) := cells_of BX2.out 0
   have c1 : w2.cell? ⟨w.heap.size, 1, none⟩ = some (.int .i64 2) := cells_of BX2.out 1
   have c2 : w2.cell? ⟨w.heap.size, 2, none⟩ = some (.int .i64 f.this) := cells_of BX2.out 2
   have c3 : w2.cell? ⟨w.heap.size, 3, none⟩ = some (.int .i64 f.super) := cells_of BX2.out 3
   have c4 : w2.cell? ⟨w.heap.size, 4, none⟩ = some (.slice Ai f.ifs.length ci) := cells_of BX2.out 4
   have c5 : w2.cell? ⟨w.heap.size, 5, none⟩ = some (.slice Af f.fds.length cf) := cells_of BX2.out 5
   have c6 : w2.cell? ⟨w.heap.size, 6, none⟩ = some (.slice Am f.mts.length cm) := cells_of BX2.out 6
   go_wp2
   go_ret
   exact ⟨ret_i (by rw [HE2.out, HTT.out, HNN.out]; simp), BE2.out⟩
  | true =>
   have HNN := Lib.hid hN
   clear hN
   by_cases hl16 : 16 < f.ifs.length
   ·have hl : (16 : Int) < f.ifs.length := by omega
    go_enter Tryz.func149, Tryz.ntmps149
    go_wp2_with fail
    refine (HT.out true _ _ FL0.out (by simp; omega) HTT.out).mono ?_
    rintro e w1 ⟨rfl, hb⟩
    have BE1 := Lib.hid (Below.link BE0.out hb)
    have BX1 := Lib.hid (Below.keep hb (by have := lt_of_block BX0.out; omega) BX0.out)
    have FL1 := Lib.hid (FL0.out.below hb (Nat.le_trans hB BE0.out.size))
    have lt1 := lt_of_block BX1.out
    clear hb
    have c0 : w1.cell? ⟨w.heap.size, 0, none⟩ = some (.slice Ap f.pool.length cp) := cells_of BX1.out 0
    have c1 : w1.cell? ⟨w.heap.size, 1, none⟩ = some (.int .i64 2) := cells_of BX1.out 1
    have c2 : w1.cell? ⟨w.heap.size, 2, none⟩ = some (.int .i64 f.this) := cells_of BX1.out 2
    have c3 : w1.cell? ⟨w.heap.size, 3, none⟩ = some (.int .i64 f.super) := cells_of BX1.out 3
    have c4 : w1.cell? ⟨w.heap.size, 4, none⟩ = some (.slice Ai f.ifs.length ci) := cells_of BX1.out 4
    have c5 : w1.cell? ⟨w.heap.size, 5, none⟩ = some (.slice Af f.fds.length cf) := cells_of BX1.out 5
    have c6 : w1.cell? ⟨w.heap.size, 6, none⟩ = some (.slice Am f.mts.length cm) := cells_of BX1.out 6
    go_wp2_with fail
    refine (HN.out true _ _ FL1.out (by omega) HNN.out).mono ?_
    rintro e w2 ⟨rfl, hb⟩
    have BE2 := Lib.hid (Below.link BE1.out hb)
    have BX2 := Lib.hid (Below.keep hb (by have := lt_of_block BX1.out; omega) BX1.out)
    have FL2 := Lib.hid (FL1.out.below hb (Nat.le_trans hB BE1.out.size))
    have lt2 := lt_of_block BX2.out
    clear c0 c1 c2 c3 c4 c5 c6
    clear hb
    have c0 : w2.cell? ⟨w.heap.size, 0, none⟩ = some (.slice Ap f.pool.length cp) := cells_of BX2.out 0
    have c1 : w2.cell? ⟨w.heap.size, 1, none⟩ = some (.int .i64 2) := cells_of BX2.out 1
    have c2 : w2.cell? ⟨w.heap.size, 2, none⟩ = some (.int .i64 f.this) := cells_of BX2.out 2
    have c3 : w2.cell? ⟨w.heap.size, 3, none⟩ = some (.int .i64 f.super) := cells_of BX2.out 3
    have c4 : w2.cell? ⟨w.heap.size, 4, none⟩ = some (.slice Ai f.ifs.length ci) := cells_of BX2.out 4
    have c5 : w2.cell? ⟨w.heap.size, 5, none⟩ = some (.slice Af f.fds.length cf) := cells_of BX2.out 5
    have c6 : w2.cell? ⟨w.heap.size, 6, none⟩ = some (.slice Am f.mts.length cm) := cells_of BX2.out 6
    go_wp2
    go_ret
    exact ⟨ret_i (by rw [HE2.out, HTT.out, HNN.out]; simp [hl16]), BE2.out⟩
   ·have hl : (f.ifs.length : Int) ≤ 16 := by omega
    have HE3 := Lib.hid (show R = if f.ifs.all (fun i => tagged f.pool i 4) = true then 0 else 7 by rw [HE2.out, HTT.out, HNN.out]; simp [hl16])
    clear hl16
    go_enter Tryz.func149, Tryz.ntmps149
    go_wp2_with fail
    refine (HT.out true _ _ FL0.out (by simp; omega) HTT.out).mono ?_
    rintro e w1 ⟨rfl, hb⟩
    have BE1 := Lib.hid (Below.link BE0.out hb)
    have BX1 := Lib.hid (Below.keep hb (by have := lt_of_block BX0.out; omega) BX0.out)
    have FL1 := Lib.hid (FL0.out.below hb (Nat.le_trans hB BE0.out.size))
    have lt1 := lt_of_block BX1.out
    clear hb
    have c0 : w1.cell? ⟨w.heap.size, 0, none⟩ = some (.slice Ap f.pool.length cp) := cells_of BX1.out 0
    have c1 : w1.cell? ⟨w.heap.size, 1, none⟩ = some (.int .i64 2) := cells_of BX1.out 1
    have c2 : w1.cell? ⟨w.heap.size, 2, none⟩ = some (.int .i64 f.this) := cells_of BX1.out 2
    have c3 : w1.cell? ⟨w.heap.size, 3, none⟩ = some (.int .i64 f.super) := cells_of BX1.out 3
    have c4 : w1.cell? ⟨w.heap.size, 4, none⟩ = some (.slice Ai f.ifs.length ci) := cells_of BX1.out 4
    have c5 : w1.cell? ⟨w.heap.size, 5, none⟩ = some (.slice Af f.fds.length cf) := cells_of BX1.out 5
    have c6 : w1.cell? ⟨w.heap.size, 6, none⟩ = some (.slice Am f.mts.length cm) := cells_of BX1.out 6
    go_wp2_with fail
    refine (HN.out true _ _ FL1.out (by omega) HNN.out).mono ?_
    rintro e w2 ⟨rfl, hb⟩
    have BE2 := Lib.hid (Below.link BE1.out hb)
    have BX2 := Lib.hid (Below.keep hb (by have := lt_of_block BX1.out; omega) BX1.out)
    have FL2 := Lib.hid (FL1.out.below hb (Nat.le_trans hB BE1.out.size))
    have lt2 := lt_of_block BX2.out
    clear c0 c1 c2 c3 c4 c5 c6
    clear hb
    have c0 : w2.cell? ⟨w.heap.size, 0, none⟩ = some (.slice Ap f.pool.length cp) := cells_of BX2.out 0
    have c1 : w2.cell? ⟨w.heap.size, 1, none⟩ = some (.int .i64 2) := cells_of BX2.out 1
    have c2 : w2.cell? ⟨w.heap.size, 2, none⟩ = some (.int .i64 f.this) := cells_of BX2.out 2
    have c3 : w2.cell? ⟨w.heap.size, 3, none⟩ = some (.int .i64 f.super) := cells_of BX2.out 3
    have c4 : w2.cell? ⟨w.heap.size, 4, none⟩ = some (.slice Ai f.ifs.length ci) := cells_of BX2.out 4
    have c5 : w2.cell? ⟨w.heap.size, 5, none⟩ = some (.slice Af f.fds.length cf) := cells_of BX2.out 5
    have c6 : w2.cell? ⟨w.heap.size, 6, none⟩ = some (.slice Am f.mts.length cm) := cells_of BX2.out 6
    go_wp2
    go_loopg [30] f.ifs.length (fun g iv wx => ∃ k : Nat, iv = .int .i64 k ∧ k + g = f.ifs.length ∧ (f.ifs.take k).all (fun i => tagged f.pool i 4) = true ∧ wx.heap[w.heap.size]? = some (.cells #[.slice Ap f.pool.length cp, .int .i64 2, .int .i64 f.this, .int .i64 f.super, .slice Ai f.ifs.length ci, .slice Af f.fds.length cf, .slice Am f.mts.length cm] 94 (0, 0)) ∧ FileAt B wx (.agg #[.slice Ap f.pool.length cp, .int .i64 2, .int .i64 f.this, .int .i64 f.super, .slice Ai f.ifs.length ci, .slice Af f.fds.length cf, .slice Am f.mts.length cm]) f ∧ Below w.heap.size w wx)
    case atStart => exact ⟨0, rfl, by omega, by simp, BX2.out, FL2.out, BE2.out⟩
    case round =>
     obtain ⟨k, rfl, hkg, hall, hbox, hfile, hbel⟩ := hrel
     have HALL := Lib.hid hall
     have BX3 := Lib.hid hbox
     have FL3 := Lib.hid hfile
     have BE3 := Lib.hid hbel
     have hlb := lt_of_block hbox
     clear hall hbox hfile hbel c0 c1 c2 c3 c4 c5 c6
     have c0 : wr.cell? ⟨w.heap.size, 0, none⟩ = some (.slice Ap f.pool.length cp) := cells_of BX3.out 0
     have c1 : wr.cell? ⟨w.heap.size, 1, none⟩ = some (.int .i64 2) := cells_of BX3.out 1
     have c2 : wr.cell? ⟨w.heap.size, 2, none⟩ = some (.int .i64 f.this) := cells_of BX3.out 2
     have c3 : wr.cell? ⟨w.heap.size, 3, none⟩ = some (.int .i64 f.super) := cells_of BX3.out 3
     have c4 : wr.cell? ⟨w.heap.size, 4, none⟩ = some (.slice Ai f.ifs.length ci) := cells_of BX3.out 4
     have c5 : wr.cell? ⟨w.heap.size, 5, none⟩ = some (.slice Af f.fds.length cf) := cells_of BX3.out 5
     have c6 : wr.cell? ⟨w.heap.size, 6, none⟩ = some (.slice Am f.mts.length cm) := cells_of BX3.out 6
     by_cases hk : k < f.ifs.length
     ·have hgg : gk - 1 < gk := by omega
      obtain ⟨x, hx⟩ : ∃ x, f.ifs[k]? = some x := ⟨_, List.getElem?_eq_getElem hk⟩
      obtain ⟨b, o, rfl, hbb, x0⟩ := (show IRow B wr _ f.ifs from Row.keep HI.out fun p hp => BE3.out.cell (p := p) (by omega)).at_ hx
      cases htx : tagged f.pool x 4 with
      | true =>
       have HNX := Lib.hid ((all_next hx HALL.out).trans htx)
       have HTX := Lib.hid htx
       clear htx hx
       go_wp2_with fail
       refine (HF.out true _ _ FL3.out (by omega) _ HTX.out).mono ?_
       rintro e w4 ⟨rfl, hb⟩
       have BE4 := Lib.hid (Below.link BE3.out hb)
       have BX4 := Lib.hid (Below.keep hb hlb BX3.out)
       have FL4 := Lib.hid (FL3.out.below hb (by omega))
       clear hb c0 c1 c2 c3 c4 c5 c6 x0
       go_wp2
       go_roundg (gk - 1)
       case measure => exact hgg
       case rel => exact ⟨k + 1, by go_num, by omega, HNX.out, BX4.out, FL4.out, BE4.out⟩
      | false =>
       have HNX := Lib.hid (all_false_of (g := fun i => tagged f.pool i 4) hx htx)
       have HTX := Lib.hid htx
       clear htx hx
       go_wp2_with fail
       refine (HF.out false _ _ FL3.out (by omega) _ HTX.out).mono ?_
       rintro e w4 ⟨rfl, hb⟩
       have BE4 := Lib.hid (Below.link BE3.out hb)
       clear hb c0 c1 c2 c3 c4 c5 c6 x0
       go_wp2
       go_ret
       exact ⟨ret_i (by rw [HE3.out, HNX.out]; rfl), BE4.out⟩
     ·have HA := Lib.hid (show f.ifs.all (fun i => tagged f.pool i 4) = true by have := HALL.out; rwa [List.take_of_length_le (by omega)] at this)
      go_wp2
      go_ret
      exact ⟨ret_i (by rw [HE3.out, HA.out]; rfl), BE3.out⟩
set_option maxRecDepth 1000000 in
set_option maxHeartbeats 6400000 in
theorem classErr_3 {B : Nat} (f : Fl) (v : Value) (w : World) (hf : FileAt B w v f) (hB : B ≤ w.heap.size) (hq : f.fl = 3) :
  Calls Tryz.prog 149 #[v] w fun e w' => e = .returned (.int .i64 (classE f)) ∧ Below w.heap.size w w' := by
 obtain ⟨hmax, hmi, -, -⟩ := hf.max
 have HE2 := Lib.hid (show classE f = (if tagged f.pool f.this 4 = true then (if noneB f.pool f.super = true then
   (if 16 < f.ifs.length then 3 else if f.ifs.all (fun i => tagged f.pool i 4) = true then 0 else 7) else 7) else 7) by unfold classE; rw [if_pos (by omega)])
 generalize classE f = R at *
 obtain ⟨Ap, cp, Ai, ci, Af, cf, Am, cm, rfl, hi⟩ := id hf
 have BE0 := Lib.hid ((Below.refl w.heap.size w).alloc (Nat.le_refl _) (.cells #[.slice Ap f.pool.length cp, .int .i64 f.fl, .int .i64 f.this, .int .i64 f.super, .slice Ai f.ifs.length ci, .slice Af f.fds.length cf, .slice Am f.mts.length cm] 94))
 have FL0 := Lib.hid (hf.alloc hB (.cells #[.slice Ap f.pool.length cp, .int .i64 f.fl, .int .i64 f.this, .int .i64 f.super, .slice Ai f.ifs.length ci, .slice Af f.fds.length cf, .slice Am f.mts.length cm] 94))
 have BX0 := Lib.hid (heap_new w (.cells #[.slice Ap f.pool.length cp, .int .i64 f.fl, .int .i64 f.this, .int .i64 f.super, .slice Ai f.ifs.length ci, .slice Af f.fds.length cf, .slice Am f.mts.length cm] 94))
 have HT := Lib.hid (fun r V W hW hWB h => has_at (B := B) r f V W hW hWB f.this 4 h)
 have HN := Lib.hid (fun r V W hW hWB h => none_at (B := B) r f V W hW hWB f.super h)
 have HF := Lib.hid (fun r V W hW hWB i h => has_at (B := B) r f V W hW hWB i 4 h)
 have HI := Lib.hid hi.ifs
 clear hi hf
 generalize f.fl = fl at *
 subst hq
 cases hT : tagged f.pool f.this 4 with
 | false =>
  have HTT := Lib.hid hT
  clear hT
  go_enter Tryz.func149, Tryz.ntmps149
  go_wp2_with fail
  refine (HT.out false _ _ FL0.out (by simp; omega) HTT.out).mono ?_
  rintro e w1 ⟨rfl, hb⟩
  have BE1 := Lib.hid (Below.link BE0.out hb)
  have BX1 := Lib.hid (Below.keep hb (by have := lt_of_block BX0.out; omega) BX0.out)
  have FL1 := Lib.hid (FL0.out.below hb (Nat.le_trans hB BE0.out.size))
  have lt1 := lt_of_block BX1.out
  clear hb
  have c0 : w1.cell? ⟨w.heap.size, 0, none⟩ = some (.slice Ap f.pool.length cp) := cells_of BX1.out 0
  have c1 : w1.cell? ⟨w.heap.size, 1, none⟩ = some (.int .i64 3) := cells_of BX1.out 1
  have c2 : w1.cell? ⟨w.heap.size, 2, none⟩ = some (.int .i64 f.this) := cells_of BX1.out 2
  have c3 : w1.cell? ⟨w.heap.size, 3, none⟩ = some (.int .i64 f.super) := cells_of BX1.out 3
  have c4 : w1.cell? ⟨w.heap.size, 4, none⟩ = some (.slice Ai f.ifs.length ci) := cells_of BX1.out 4
  have c5 : w1.cell? ⟨w.heap.size, 5, none⟩ = some (.slice Af f.fds.length cf) := cells_of BX1.out 5
  have c6 : w1.cell? ⟨w.heap.size, 6, none⟩ = some (.slice Am f.mts.length cm) := cells_of BX1.out 6
  go_wp2
  go_ret
  exact ⟨ret_i (by rw [HE2.out, HTT.out]; simp), BE1.out⟩
 | true =>
  have HTT := Lib.hid hT
  clear hT
  cases hN : noneB f.pool f.super with
  | false =>
   have HNN := Lib.hid hN
   clear hN
   go_enter Tryz.func149, Tryz.ntmps149
   go_wp2_with fail
   refine (HT.out true _ _ FL0.out (by simp; omega) HTT.out).mono ?_
   rintro e w1 ⟨rfl, hb⟩
   have BE1 := Lib.hid (Below.link BE0.out hb)
   have BX1 := Lib.hid (Below.keep hb (by have := lt_of_block BX0.out; omega) BX0.out)
   have FL1 := Lib.hid (FL0.out.below hb (Nat.le_trans hB BE0.out.size))
   have lt1 := lt_of_block BX1.out
   clear hb
   have c0 : w1.cell? ⟨w.heap.size, 0, none⟩ = some (.slice Ap f.pool.length cp) := cells_of BX1.out 0
   have c1 : w1.cell? ⟨w.heap.size, 1, none⟩ = some (.int .i64 3) := cells_of BX1.out 1
   have c2 : w1.cell? ⟨w.heap.size, 2, none⟩ = some (.int .i64 f.this) := cells_of BX1.out 2
   have c3 : w1.cell? ⟨w.heap.size, 3, none⟩ = some (.int .i64 f.super) := cells_of BX1.out 3
   have c4 : w1.cell? ⟨w.heap.size, 4, none⟩ = some (.slice Ai f.ifs.length ci) := cells_of BX1.out 4
   have c5 : w1.cell? ⟨w.heap.size, 5, none⟩ = some (.slice Af f.fds.length cf) := cells_of BX1.out 5
   have c6 : w1.cell? ⟨w.heap.size, 6, none⟩ = some (.slice Am f.mts.length cm) := cells_of BX1.out 6
   go_wp2_with fail
   refine (HN.out false _ _ FL1.out (by omega) HNN.out).mono ?_
   rintro e w2 ⟨rfl, hb⟩
   have BE2 := Lib.hid (Below.link BE1.out hb)
   have BX2 := Lib.hid (Below.keep hb (by have := lt_of_block BX1.out; omega) BX1.out)
   have FL2 := Lib.hid (FL1.out.below hb (Nat.le_trans hB BE1.out.size))
   have lt2 := lt_of_block BX2.out
   clear c0 c1 c2 c3 c4 c5 c6
   clear hb
   have c0 : w2.cell? ⟨w.heap.size, 0, none⟩ = some (.slice Ap f.pool.length cp) := cells_of BX2.out 0
   have c1 : w2.cell? ⟨w.heap.size, 1, none⟩ = some (.int .i64 3) := cells_of BX2.out 1
   have c2 : w2.cell? ⟨w.heap.size, 2, none⟩ = some (.int .i64 f.this) := cells_of BX2.out 2
   have c3 : w2.cell? ⟨w.heap.size, 3, none⟩ = some (.int .i64 f.super) := cells_of BX2.out 3
   have c4 : w2.cell? ⟨w.heap.size, 4, none⟩ = some (.slice Ai f.ifs.length ci) := cells_of BX2.out 4
   have c5 : w2.cell? ⟨w.heap.size, 5, none⟩ = some (.slice Af f.fds.length cf) := cells_of BX2.out 5
   have c6 : w2.cell? ⟨w.heap.size, 6, none⟩ = some (.slice Am f.mts.length cm) := cells_of BX2.out 6
   go_wp2
   go_ret
   exact ⟨ret_i (by rw [HE2.out, HTT.out, HNN.out]; simp), BE2.out⟩
  | true =>
   have HNN := Lib.hid hN
   clear hN
   by_cases hl16 : 16 < f.ifs.length
   ·have hl : (16 : Int) < f.ifs.length := by omega
    go_enter Tryz.func149, Tryz.ntmps149
    go_wp2_with fail
    refine (HT.out true _ _ FL0.out (by simp; omega) HTT.out).mono ?_
    rintro e w1 ⟨rfl, hb⟩
    have BE1 := Lib.hid (Below.link BE0.out hb)
    have BX1 := Lib.hid (Below.keep hb (by have := lt_of_block BX0.out; omega) BX0.out)
    have FL1 := Lib.hid (FL0.out.below hb (Nat.le_trans hB BE0.out.size))
    have lt1 := lt_of_block BX1.out
    clear hb
    have c0 : w1.cell? ⟨w.heap.size, 0, none⟩ = some (.slice Ap f.pool.length cp) := cells_of BX1.out 0
    have c1 : w1.cell? ⟨w.heap.size, 1, none⟩ = some (.int .i64 3) := cells_of BX1.out 1
    have c2 : w1.cell? ⟨w.heap.size, 2, none⟩ = some (.int .i64 f.this) := cells_of BX1.out 2
    have c3 : w1.cell? ⟨w.heap.size, 3, none⟩ = some (.int .i64 f.super) := cells_of BX1.out 3
    have c4 : w1.cell? ⟨w.heap.size, 4, none⟩ = some (.slice Ai f.ifs.length ci) := cells_of BX1.out 4
    have c5 : w1.cell? ⟨w.heap.size, 5, none⟩ = some (.slice Af f.fds.length cf) := cells_of BX1.out 5
    have c6 : w1.cell? ⟨w.heap.size, 6, none⟩ = some (.slice Am f.mts.length cm) := cells_of BX1.out 6
    go_wp2_with fail
    refine (HN.out true _ _ FL1.out (by omega) HNN.out).mono ?_
    rintro e w2 ⟨rfl, hb⟩
    have BE2 := Lib.hid (Below.link BE1.out hb)
    have BX2 := Lib.hid (Below.keep hb (by have := lt_of_block BX1.out; omega) BX1.out)
    have FL2 := Lib.hid (FL1.out.below hb (Nat.le_trans hB BE1.out.size))
    have lt2 := lt_of_block BX2.out
    clear c0 c1 c2 c3 c4 c5 c6
    clear hb
    have c0 : w2.cell? ⟨w.heap.size, 0, none⟩ = some (.slice Ap f.pool.length cp) := cells_of BX2.out 0
    have c1 : w2.cell? ⟨w.heap.size, 1, none⟩ = some (.int .i64 3) := cells_of BX2.out 1
    have c2 : w2.cell? ⟨w.heap.size, 2, none⟩ = some (.int .i64 f.this) := cells_of BX2.out 2
    have c3 : w2.cell? ⟨w.heap.size, 3, none⟩ = some (.int .i64 f.super) := cells_of BX2.out 3
    have c4 : w2.cell? ⟨w.heap.size, 4, none⟩ = some (.slice Ai f.ifs.length ci) := cells_of BX2.out 4
    have c5 : w2.cell? ⟨w.heap.size, 5, none⟩ = some (.slice Af f.fds.length cf) := cells_of BX2.out 5
    have c6 : w2.cell? ⟨w.heap.size, 6, none⟩ = some (.slice Am f.mts.length cm) := cells_of BX2.out 6
    go_wp2
    go_ret
    exact ⟨ret_i (by rw [HE2.out, HTT.out, HNN.out]; simp [hl16]), BE2.out⟩
   ·have hl : (f.ifs.length : Int) ≤ 16 := by omega
    have HE3 := Lib.hid (show R = if f.ifs.all (fun i => tagged f.pool i 4) = true then 0 else 7 by rw [HE2.out, HTT.out, HNN.out]; simp [hl16])
    clear hl16
    go_enter Tryz.func149, Tryz.ntmps149
    go_wp2_with fail
    refine (HT.out true _ _ FL0.out (by simp; omega) HTT.out).mono ?_
    rintro e w1 ⟨rfl, hb⟩
    have BE1 := Lib.hid (Below.link BE0.out hb)
    have BX1 := Lib.hid (Below.keep hb (by have := lt_of_block BX0.out; omega) BX0.out)
    have FL1 := Lib.hid (FL0.out.below hb (Nat.le_trans hB BE0.out.size))
    have lt1 := lt_of_block BX1.out
    clear hb
    have c0 : w1.cell? ⟨w.heap.size, 0, none⟩ = some (.slice Ap f.pool.length cp) := cells_of BX1.out 0
    have c1 : w1.cell? ⟨w.heap.size, 1, none⟩ = some (.int .i64 3) := cells_of BX1.out 1
    have c2 : w1.cell? ⟨w.heap.size, 2, none⟩ = some (.int .i64 f.this) := cells_of BX1.out 2
    have c3 : w1.cell? ⟨w.heap.size, 3, none⟩ = some (.int .i64 f.super) := cells_of BX1.out 3
    have c4 : w1.cell? ⟨w.heap.size, 4, none⟩ = some (.slice Ai f.ifs.length ci) := cells_of BX1.out 4
    have c5 : w1.cell? ⟨w.heap.size, 5, none⟩ = some (.slice Af f.fds.length cf) := cells_of BX1.out 5
    have c6 : w1.cell? ⟨w.heap.size, 6, none⟩ = some (.slice Am f.mts.length cm) := cells_of BX1.out 6
    go_wp2_with fail
    refine (HN.out true _ _ FL1.out (by omega) HNN.out).mono ?_
    rintro e w2 ⟨rfl, hb⟩
    have BE2 := Lib.hid (Below.link BE1.out hb)
    have BX2 := Lib.hid (Below.keep hb (by have := lt_of_block BX1.out; omega) BX1.out)
    have FL2 := Lib.hid (FL1.out.below hb (Nat.le_trans hB BE1.out.size))
    have lt2 := lt_of_block BX2.out
    clear c0 c1 c2 c3 c4 c5 c6
    clear hb
    have c0 : w2.cell? ⟨w.heap.size, 0, none⟩ = some (.slice Ap f.pool.length cp) := cells_of BX2.out 0
    have c1 : w2.cell? ⟨w.heap.size, 1, none⟩ = some (.int .i64 3) := cells_of BX2.out 1
    have c2 : w2.cell? ⟨w.heap.size, 2, none⟩ = some (.int .i64 f.this) := cells_of BX2.out 2
    have c3 : w2.cell? ⟨w.heap.size, 3, none⟩ = some (.int .i64 f.super) := cells_of BX2.out 3
    have c4 : w2.cell? ⟨w.heap.size, 4, none⟩ = some (.slice Ai f.ifs.length ci) := cells_of BX2.out 4
    have c5 : w2.cell? ⟨w.heap.size, 5, none⟩ = some (.slice Af f.fds.length cf) := cells_of BX2.out 5
    have c6 : w2.cell? ⟨w.heap.size, 6, none⟩ = some (.slice Am f.mts.length cm) := cells_of BX2.out 6
    go_wp2
    go_loopg [30] f.ifs.length (fun g iv wx => ∃ k : Nat, iv = .int .i64 k ∧ k + g = f.ifs.length ∧ (f.ifs.take k).all (fun i => tagged f.pool i 4) = true ∧ wx.heap[w.heap.size]? = some (.cells #[.slice Ap f.pool.length cp, .int .i64 3, .int .i64 f.this, .int .i64 f.super, .slice Ai f.ifs.length ci, .slice Af f.fds.length cf, .slice Am f.mts.length cm] 94 (0, 0)) ∧ FileAt B wx (.agg #[.slice Ap f.pool.length cp, .int .i64 3, .int .i64 f.this, .int .i64 f.super, .slice Ai f.ifs.length ci, .slice Af f.fds.length cf, .slice Am f.mts.length cm]) f ∧ Below w.heap.size w wx)
    case atStart => exact ⟨0, rfl, by omega, by simp, BX2.out, FL2.out, BE2.out⟩
    case round =>
     obtain ⟨k, rfl, hkg, hall, hbox, hfile, hbel⟩ := hrel
     have HALL := Lib.hid hall
     have BX3 := Lib.hid hbox
     have FL3 := Lib.hid hfile
     have BE3 := Lib.hid hbel
     have hlb := lt_of_block hbox
     clear hall hbox hfile hbel c0 c1 c2 c3 c4 c5 c6
     have c0 : wr.cell? ⟨w.heap.size, 0, none⟩ = some (.slice Ap f.pool.length cp) := cells_of BX3.out 0
     have c1 : wr.cell? ⟨w.heap.size, 1, none⟩ = some (.int .i64 3) := cells_of BX3.out 1
     have c2 : wr.cell? ⟨w.heap.size, 2, none⟩ = some (.int .i64 f.this) := cells_of BX3.out 2
     have c3 : wr.cell? ⟨w.heap.size, 3, none⟩ = some (.int .i64 f.super) := cells_of BX3.out 3
     have c4 : wr.cell? ⟨w.heap.size, 4, none⟩ = some (.slice Ai f.ifs.length ci) := cells_of BX3.out 4
     have c5 : wr.cell? ⟨w.heap.size, 5, none⟩ = some (.slice Af f.fds.length cf) := cells_of BX3.out 5
     have c6 : wr.cell? ⟨w.heap.size, 6, none⟩ = some (.slice Am f.mts.length cm) := cells_of BX3.out 6
     by_cases hk : k < f.ifs.length
     ·have hgg : gk - 1 < gk := by omega
      obtain ⟨x, hx⟩ : ∃ x, f.ifs[k]? = some x := ⟨_, List.getElem?_eq_getElem hk⟩
      obtain ⟨b, o, rfl, hbb, x0⟩ := (show IRow B wr _ f.ifs from Row.keep HI.out fun p hp => BE3.out.cell (p := p) (by omega)).at_ hx
      cases htx : tagged f.pool x 4 with
      | true =>
       have HNX := Lib.hid ((all_next hx HALL.out).trans htx)
       have HTX := Lib.hid htx
       clear htx hx
       go_wp2_with fail
       refine (HF.out true _ _ FL3.out (by omega) _ HTX.out).mono ?_
       rintro e w4 ⟨rfl, hb⟩
       have BE4 := Lib.hid (Below.link BE3.out hb)
       have BX4 := Lib.hid (Below.keep hb hlb BX3.out)
       have FL4 := Lib.hid (FL3.out.below hb (by omega))
       clear hb c0 c1 c2 c3 c4 c5 c6 x0
       go_wp2
       go_roundg (gk - 1)
       case measure => exact hgg
       case rel => exact ⟨k + 1, by go_num, by omega, HNX.out, BX4.out, FL4.out, BE4.out⟩
      | false =>
       have HNX := Lib.hid (all_false_of (g := fun i => tagged f.pool i 4) hx htx)
       have HTX := Lib.hid htx
       clear htx hx
       go_wp2_with fail
       refine (HF.out false _ _ FL3.out (by omega) _ HTX.out).mono ?_
       rintro e w4 ⟨rfl, hb⟩
       have BE4 := Lib.hid (Below.link BE3.out hb)
       clear hb c0 c1 c2 c3 c4 c5 c6 x0
       go_wp2
       go_ret
       exact ⟨ret_i (by rw [HE3.out, HNX.out]; rfl), BE4.out⟩
     ·have HA := Lib.hid (show f.ifs.all (fun i => tagged f.pool i 4) = true by have := HALL.out; rwa [List.take_of_length_le (by omega)] at this)
      go_wp2
      go_ret
      exact ⟨ret_i (by rw [HE3.out, HA.out]; rfl), BE3.out⟩
set_option maxRecDepth 1000000 in
set_option maxHeartbeats 6400000 in
theorem classErr_any {B : Nat} (f : Fl) (v : Value) (w : World) (hf : FileAt B w v f) (hB : B ≤ w.heap.size) :
  Calls Tryz.prog 149 #[v] w fun e w' => e = .returned (.int .i64 (classE f)) ∧ Below w.heap.size w w' := by
 by_cases h0 : f.fl = 0
 ·exact classErr_0 f v w hf hB h0
 by_cases h2 : f.fl = 2
 ·exact classErr_2 f v w hf hB h2
 by_cases h3 : f.fl = 3
 ·exact classErr_3 f v w hf hB h3
 have HR := Lib.hid (show classE f = 10 by unfold classE; rw [if_neg (by omega)])
 generalize classE f = R at *
 obtain ⟨Ap, cp, Ai, ci, Af, cf, Am, cm, rfl, hi⟩ := id hf
 have BE0 := Lib.hid ((Below.refl w.heap.size w).alloc (Nat.le_refl _) (.cells #[.slice Ap f.pool.length cp, .int .i64 f.fl, .int .i64 f.this, .int .i64 f.super, .slice Ai f.ifs.length ci, .slice Af f.fds.length cf, .slice Am f.mts.length cm] 94))
 clear hi hf
 generalize f.fl = fl at *
 have g0 : (fl == 0) = false := by rw [beq_eq_false_iff_ne]; omega
 have g2 : (fl == 2) = false := by rw [beq_eq_false_iff_ne]; omega
 have g3 : (fl == 3) = false := by rw [beq_eq_false_iff_ne]; omega
 clear h0 h2 h3
 go_enter Tryz.func149, Tryz.ntmps149
 go_wp2
 go_ret
 exact ⟨ret_i HR.out.symm, BE0.out⟩
end Go.Proofs.YtmaknddlgppinaaGreatDoor
