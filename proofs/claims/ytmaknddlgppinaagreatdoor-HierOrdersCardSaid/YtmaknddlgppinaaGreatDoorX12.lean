/-
  CUT and joined from the texts of this seat: E3
-/
import Derived.Test.YtmaknddlgppinaaGreatDoorX11
import Derived.LoopN
import Derived.Deep.LoopGhost
set_option linter.unusedVariables false
set_option linter.unusedSimpArgs false
/-! E3 -/
namespace Go.Proofs.YtmaknddlgppinaaGreatDoor
open Go.RowKit

/-- The first error of a row. -/
def firstErr {α : Type} (g : α → Int) : List α → Int
  | [] => 0
  | x :: r => if g x = 0 then firstErr g r else g x
theorem firstErr_append {α : Type} (g : α → Int) (a b : List α) : firstErr g (a ++ b) = if firstErr g a = 0 then firstErr g b else firstErr g a := by
  induction a with
  | nil => simp [firstErr]
  | cons x r ih =>
    simp only [List.cons_append, firstErr]
    split
    · exact ih
    · rfl
theorem firstErr_next {α : Type} (g : α → Int) (l : List α) (k : Nat) (x : α) (hx : l[k]? = some x) (h : firstErr g (l.take k) = 0) : firstErr g (l.take (k + 1)) = g x := by
  obtain ⟨hk, rfl⟩ := List.getElem?_eq_some_iff.1 hx
  rw [List.take_succ_eq_append_getElem hk, firstErr_append, if_pos h]
  simp only [firstErr]
  split
  · rename_i h; exact h.symm
  · rfl
theorem firstErr_stop {α : Type} (g : α → Int) (l : List α) (k : Nat) (h : firstErr g (l.take k) ≠ 0) : firstErr g l = firstErr g (l.take k) := by
  conv => lhs; rw [← List.take_append_drop k l, firstErr_append, if_neg h]
/-- The links of a constant are right. -/
def linksB (p : List Cn) (c : Cn) : Bool := linkB p c.a (tag1 c.tag) && (linkB p c.b (tag2 c.tag) && linkB p c.c (tag2 c.tag))
def constE (p : List Cn) (c : Cn) : Int := if rightTagB c = true then (if linksB p c = true then textE p c else 7) else 7
def poolE (p : List Cn) : Int := if 2000 < p.length then 3 else firstErr (constE p) p
/-- The box of a file. -/
def FBox (b : Nat) (Ap : Option Addr) (cp : Nat) (Ai : Option Addr) (ci : Nat) (Af : Option Addr) (cf : Nat) (Am : Option Addr) (cm : Nat) (f : Fl) (w : World) : Prop :=
  w.heap[b]? = some (.cells #[.slice Ap f.pool.length cp, .int .i64 f.fl, .int .i64 f.this, .int .i64 f.super, .slice Ai f.ifs.length ci, .slice Af f.fds.length cf, .slice Am f.mts.length cm] 94 (0, 0))
theorem FBox.new (Ap : Option Addr) (cp : Nat) (Ai : Option Addr) (ci : Nat) (Af : Option Addr) (cf : Nat) (Am : Option Addr) (cm : Nat) (f : Fl) (w : World) : FBox w.heap.size Ap cp Ai ci Af cf Am cm f (w.alloc (.cells #[.slice Ap f.pool.length cp, .int .i64 f.fl, .int .i64 f.this, .int .i64 f.super, .slice Ai f.ifs.length ci, .slice Af f.fds.length cf, .slice Am f.mts.length cm] 94)) := heap_new w _
section
variable {b : Nat} {Ap Ai Af Am : Option Addr} {cp ci cf cm : Nat} {f : Fl} {w : World}
theorem FBox.lt (h : FBox b Ap cp Ai ci Af cf Am cm f w) : b < w.heap.size := lt_of_block h
theorem FBox.alloc (h : FBox b Ap cp Ai ci Af cf Am cm f w) (o : Obj) : FBox b Ap cp Ai ci Af cf Am cm f (w.alloc o) := heap_alloc_lt h
theorem FBox.below {w' : World} {B : Nat} (h : FBox b Ap cp Ai ci Af cf Am cm f w) (hb : Below B w w') (hB : b < B) : FBox b Ap cp Ai ci Af cf Am cm f w' := Below.keep hb hB h
theorem FBox.set (h : FBox b Ap cp Ai ci Af cf Am cm f w) {p : Addr} (hp : b ≠ p.block) (u : Value) : FBox b Ap cp Ai ci Af cf Am cm f (w.setCell p u) := heap_setCell_ne hp h
theorem FBox.drew (h : FBox b Ap cp Ai ci Af cf Am cm f w) : FBox b Ap cp Ai ci Af cf Am cm f w.drew := h
theorem FBox.cells (h : FBox b Ap cp Ai ci Af cf Am cm f w) : w.cell? ⟨b, 0, none⟩ = some (.slice Ap f.pool.length cp) ∧ w.cell? ⟨b, 1, none⟩ = some (.int .i64 f.fl) ∧ w.cell? ⟨b, 2, none⟩ = some (.int .i64 f.this) ∧ w.cell? ⟨b, 3, none⟩ = some (.int .i64 f.super) ∧
    w.cell? ⟨b, 4, none⟩ = some (.slice Ai f.ifs.length ci) ∧ w.cell? ⟨b, 5, none⟩ = some (.slice Af f.fds.length cf) ∧ w.cell? ⟨b, 6, none⟩ = some (.slice Am f.mts.length cm) :=
  ⟨cells_of h 0, cells_of h 1, cells_of h 2, cells_of h 3, cells_of h 4, cells_of h 5, cells_of h 6⟩
end
theorem FileIs.at_ {B : Nat} {w : World} {Ap Ai Af Am : Option Addr} {cp ci cf cm : Nat} {f : Fl} (h : FileIs B w Ap cp Ai ci Af cf Am cm f) : FileAt B w (.agg #[.slice Ap f.pool.length cp, .int .i64 f.fl, .int .i64 f.this, .int .i64 f.super, .slice Ai f.ifs.length ci, .slice Af f.fds.length cf, .slice Am f.mts.length cm]) f := ⟨_, _, _, _, _, _, _, _, rfl, h⟩
theorem run_idx0 (a b c : Value) (W : World) : (Instr.index 201 (.agg #[a, b, c]) (.int .i64 0)).run Tryz.prog W = .ok a W := by
  simp [Instr.index, run_underlying Tryz.underlying201, asIntOf, go_sem]
theorem run_idx1 (a b c : Value) (W : World) : (Instr.index 201 (.agg #[a, b, c]) (.int .i64 1)).run Tryz.prog W = .ok b W := by
  simp [Instr.index, run_underlying Tryz.underlying201, asIntOf, go_sem]
theorem run_idx2 (a b c : Value) (W : World) : (Instr.index 201 (.agg #[a, b, c]) (.int .i64 2)).run Tryz.prog W = .ok c W := by
  simp [Instr.index, run_underlying Tryz.underlying201, asIntOf, go_sem]
set_option maxRecDepth 1000000 in
set_option maxHeartbeats 6400000 in
theorem poolErr_any {B : Nat} (f : Fl) (v : Value) (w : World) (hf : FileAt B w v f) (hB : B ≤ w.heap.size) (ht : Texts f.pool) :
    Calls Tryz.prog 148 #[v] w fun e w' => e = .returned (.int .i64 (poolE f.pool)) ∧ Below w.heap.size w w' := by
  have HE := Lib.hid (show poolE f.pool = if 2000 < f.pool.length then 3 else firstErr (constE f.pool) f.pool from rfl)
  have hmax := hf.max.1
  obtain ⟨Ap, cp, Ai, ci, Af, cf, Am, cm, rfl, hi⟩ := id hf
  have HBE := Lib.hid ((Below.refl w.heap.size w).alloc (Nat.le_refl _) (.cells #[.slice Ap f.pool.length cp, .int .i64 f.fl, .int .i64 f.this, .int .i64 f.super, .slice Ai f.ifs.length ci, .slice Af f.fds.length cf, .slice Am f.mts.length cm] 94))
  have HFL := Lib.hid hf
  have HI := Lib.hid hi
  have HTX := Lib.hid ht
  have HBX := Lib.hid (FBox.new Ap cp Ai ci Af cf Am cm f w)
  generalize poolE f.pool = R at *
  clear hi hf ht
  by_cases hlen : 2000 < f.pool.length
  · have hl2 : (2000 : Int) < f.pool.length := by omega
    go_enter Tryz.func148, Tryz.ntmps148
    go_wp2
    go_step3
    go_wp2
    try rw [Exit.noGoto_ret]
    go_ret
    exact ⟨ret_i (by rw [HE.out, if_pos hlen]), HBE.out⟩
  · have hle : f.pool.length ≤ 2000 := by omega
    have HE2 := Lib.hid (show R = firstErr (constE f.pool) f.pool by rw [HE.out, if_neg hlen])
    have hl2 : (f.pool.length : Int) ≤ 2000 := by omega
    clear hlen HE
    go_enter Tryz.func148, Tryz.ntmps148
    go_wp2
    go_step3
    go_wp2
    go_step3
    go_wp2
    go_loopg [3, 4] f.pool.length (fun g ev iv wx => ∃ (k : Nat) (E : Int), ev = .int .i64 E ∧ iv = .int .i64 k ∧ firstErr (constE f.pool) (f.pool.take k) = E ∧ k + g = f.pool.length ∧ FBox w.heap.size Ap cp Ai ci Af cf Am cm f wx ∧ Below w.heap.size w wx)
    case atStart => exact ⟨0, 0, rfl, rfl, rfl, by omega, HBX.out, HBE.out⟩
    case round =>
      obtain ⟨k, E, rfl, rfl, hE, hkg, hbox, hbel⟩ := hrel
      have HEK := Lib.hid hE
      have HBOX := Lib.hid hbox
      have HBEL := Lib.hid hbel
      have hlb := hbox.lt
      obtain ⟨c0, c1, c2, c3, c4, c5, c6⟩ := hbox.cells
      have hgg : gk - 1 < gk ∨ gk = 0 := by omega
      clear hE hbox hbel
      by_cases hk : k < f.pool.length
      · by_cases hE0 : E = 0
        · subst hE0
          have hgg : gk - 1 < gk := by omega
          obtain ⟨x, hx⟩ : ∃ x, f.pool[k]? = some x := ⟨_, List.getElem?_eq_getElem hk⟩
          have hI := HI.out.keep (w' := wr) (fun p hp => HBEL.out.cell (p := p) (by omega))
          obtain ⟨b, o, rfl, hb, x0, x1, x2, x3, x4, x5⟩ := hI.pool.at_ hx
          have HIR := Lib.hid hI
          have HNX := Lib.hid (firstErr_next (constE f.pool) f.pool k x hx HEK.out)
          have HXT := Lib.hid (HTX.out x (List.mem_of_getElem? hx))
          clear hI hx
          cases hrt : rightTagB x with
          | false =>
            have HCE := Lib.hid (show constE f.pool x = 7 by unfold constE; rw [hrt]; rfl)
            have HRT := fun W => Lib.hid (rightTag_at false x W hrt)
            clear hrt
            go_wp2_with fail
            refine (HRT _).out.mono ?_
            rintro e w2 ⟨rfl, hb2⟩
            have BX2 := Lib.hid ((HBOX.out.alloc (.cells #[.int .i64 x.tag, .string x.text, .int .i64 x.n, .int .i64 x.a, .int .i64 x.b, .int .i64 x.c] 138)).below hb2 (by simp; omega))
            have BE2 := Lib.hid (Below.link (HBEL.out.alloc (by omega) (.cells #[.int .i64 x.tag, .string x.text, .int .i64 x.n, .int .i64 x.a, .int .i64 x.b, .int .i64 x.c] 138)) hb2)
            have hlb2 := BX2.out.lt
            clear hb2 c0 c1 c2 c3 c4 c5 c6 x0 x1 x2 x3 x4 x5
            go_wp2
            go_roundg (gk - 1)
            case measure => exact hgg
            case rel => exact ⟨k + 1, 7, rfl, by go_num, by rw [HNX.out]; exact HCE.out, by omega, BX2.out, BE2.out⟩
          | true =>
            have HRT := fun W => Lib.hid (rightTag_at true x W hrt)
            have HR := Lib.hid hrt
            clear hrt
            go_wp2_with fail
            refine (HRT _).out.mono ?_
            rintro e w2 ⟨rfl, hb2⟩
            have BX2 := Lib.hid ((HBOX.out.alloc (.cells #[.int .i64 x.tag, .string x.text, .int .i64 x.n, .int .i64 x.a, .int .i64 x.b, .int .i64 x.c] 138)).below hb2 (by simp; omega))
            have BE2 := Lib.hid (Below.link (HBEL.out.alloc (by omega) (.cells #[.int .i64 x.tag, .string x.text, .int .i64 x.n, .int .i64 x.a, .int .i64 x.b, .int .i64 x.c] 138)) hb2)
            have cb2 := Below.keep hb2 (by simp) (heap_new wr (.cells #[.int .i64 x.tag, .string x.text, .int .i64 x.n, .int .i64 x.a, .int .i64 x.b, .int .i64 x.c] 138))
            have hlb2 := BX2.out.lt
            have hc2 : wr.heap.size < w2.heap.size := lt_of_block cb2
            have y0 : w2.cell? ⟨wr.heap.size, 0, none⟩ = some (.int .i64 x.tag) := cells_of cb2 0
            have CB2 := Lib.hid cb2
            clear cb2 hb2 c0 c1 c2 c3 c4 c5 c6 x0 x1 x2 x3 x4 x5
            go_wp2_with fail
            refine (linkTags_any x.tag _).mono ?_
            rintro e w3 ⟨rfl, hb3⟩
            have BX3 := Lib.hid ((BX2.out.below hb3 hlb2).alloc (.cells #[.int .i64 (tag1 x.tag), .int .i64 (tag2 x.tag), .int .i64 (tag2 x.tag)] 201))
            have BE3 := Lib.hid ((Below.link BE2.out hb3).alloc (Nat.le_trans (by omega) hb3.size) (.cells #[.int .i64 (tag1 x.tag), .int .i64 (tag2 x.tag), .int .i64 (tag2 x.tag)] 201))
            have CB3 := Lib.hid (heap_alloc_lt (o := .cells #[.int .i64 (tag1 x.tag), .int .i64 (tag2 x.tag), .int .i64 (tag2 x.tag)] 201) (Below.keep hb3 hc2 CB2.out))
            have TB3 := Lib.hid (heap_new w3 (.cells #[.int .i64 (tag1 x.tag), .int .i64 (tag2 x.tag), .int .i64 (tag2 x.tag)] 201))
            have cb3 := Below.keep hb3 hc2 CB2.out
            have z3 : w3.cell? ⟨wr.heap.size, 3, none⟩ = some (.int .i64 x.a) := cells_of cb3 3
            have z4 : w3.cell? ⟨wr.heap.size, 4, none⟩ = some (.int .i64 x.b) := cells_of cb3 4
            have z5 : w3.cell? ⟨wr.heap.size, 5, none⟩ = some (.int .i64 x.c) := cells_of cb3 5
            have hc3 : wr.heap.size < w3.heap.size := lt_of_block cb3
            have hlw : w.heap.size < wr.heap.size := hlb
            clear hb3 y0 cb3
            go_wp2
            generalize hw4 : w3.alloc (.cells #[.int .i64 (tag1 x.tag), .int .i64 (tag2 x.tag), .int .i64 (tag2 x.tag)] 201) = w4 at *
            generalize hT : w3.heap.size = T at *
            generalize hC : wr.heap.size = C at *
            clear hw4 hT hC z3 z4 z5
            obtain ⟨c0, c1, c2, c3, c4, c5, c6⟩ := BX3.out.cells
            have t0 : w4.cell? ⟨T, 0, none⟩ = some (.int .i64 (tag1 x.tag)) := cells_of TB3.out 0
            have t1 : w4.cell? ⟨T, 1, none⟩ = some (.int .i64 (tag2 x.tag)) := cells_of TB3.out 1
            have t2 : w4.cell? ⟨T, 2, none⟩ = some (.int .i64 (tag2 x.tag)) := cells_of TB3.out 2
            have hT4 := lt_of_block TB3.out
            have hC4 := lt_of_block CB3.out
            have hl4 := BX3.out.lt
            have i0 := fun W => run_idx0 (.int .i64 x.a) (.int .i64 x.b) (.int .i64 x.c) W
            have i1 := fun W => run_idx1 (.int .i64 x.a) (.int .i64 x.b) (.int .i64 x.c) W
            have i2 := fun W => run_idx2 (.int .i64 x.a) (.int .i64 x.b) (.int .i64 x.c) W
            have HIW4 := Lib.hid (HI.out.keep (w' := w4) (fun p hp => BE3.out.cell (p := p) (by omega)))
            have hC3 := hC4
            refine wp_loop_rounds 4 ?_
            rw [rounds_succ]
            go_wp2
            cases hL0 : linkB f.pool x.a (tag1 x.tag) with
            | false =>
              have HCE := Lib.hid (show constE f.pool x = 7 by unfold constE linksB; rw [if_pos HR.out, hL0]; simp)
              have HL := Lib.hid (fun V W hW hWB => rightLink_at (B := B) false f V W hW hWB x.a (tag1 x.tag) hL0)
              clear hL0
              refine wp_region_still_tail 5 (by kernel_rfl) (by kernel_rfl) ?_
              change wpStill _ _ w4.drew _ _ _
              simp only [List.take_succ_cons, List.take_zero, List.drop_succ_cons, List.drop_zero]
              repeat still_step
              refine wpStill_nil ?_
              change wpList _ _ _ _ _ w4.drew
              go_wp2_with fail
              refine (HL.out _ w4.drew (HIW4.out.at_.keep fun _ _ => rfl) (show B ≤ w4.heap.size by omega)).mono ?_
              rintro e w5 ⟨rfl, hb⟩
              have BX5 := Lib.hid (BX3.out.drew.below hb (show w.heap.size < w4.heap.size by omega))
              have BE5 := Lib.hid (Below.link BE3.out.drew hb)
              have hlb5 := BX5.out.lt
              clear hb c0 c1 c2 c3 c4 c5 c6 t0 t1 t2
              go_wp2
              go_roundg (gk - 1)
              case measure => exact hgg
              case rel => exact ⟨k + 1, 7, rfl, by go_num, by rw [HNX.out]; exact HCE.out, by omega, BX5.out, BE5.out⟩
            | true =>
              have HL0 := Lib.hid hL0
              have HL := Lib.hid (fun V W hW hWB => rightLink_at (B := B) true f V W hW hWB x.a (tag1 x.tag) hL0)
              clear hL0
              refine wp_region_still_tail 5 (by kernel_rfl) (by kernel_rfl) ?_
              change wpStill _ _ w4.drew _ _ _
              simp only [List.take_succ_cons, List.take_zero, List.drop_succ_cons, List.drop_zero]
              repeat still_step
              refine wpStill_nil ?_
              change wpList _ _ _ _ _ w4.drew
              go_wp2_with fail
              refine (HL.out _ w4.drew (HIW4.out.at_.keep fun _ _ => rfl) (show B ≤ w4.heap.size by omega)).mono ?_
              rintro e w5 ⟨rfl, hb⟩
              have BX4 := Lib.hid (BX3.out.drew.below hb (show w.heap.size < w4.heap.size by omega))
              have BE4 := Lib.hid (Below.link BE3.out.drew hb)
              have CB4 := Lib.hid (Below.keep (w := w4.drew) hb (show C < w4.heap.size by omega) CB3.out)
              have TB4 := Lib.hid (Below.keep (w := w4.drew) hb (show T < w4.heap.size by omega) TB3.out)
              have HIW5 := Lib.hid (HIW4.out.keep (w' := w5) fun p hp => hb.cell (p := p) (show p.block < w4.heap.size by omega))
              clear hb c0 c1 c2 c3 c4 c5 c6 t0 t1 t2 HL
              obtain ⟨c0, c1, c2, c3, c4, c5, c6⟩ := BX4.out.cells
              have t0 : w5.cell? ⟨T, 0, none⟩ = some (.int .i64 (tag1 x.tag)) := cells_of TB4.out 0
              have t1 : w5.cell? ⟨T, 1, none⟩ = some (.int .i64 (tag2 x.tag)) := cells_of TB4.out 1
              have t2 : w5.cell? ⟨T, 2, none⟩ = some (.int .i64 (tag2 x.tag)) := cells_of TB4.out 2
              have hT5 := lt_of_block TB4.out
              have hC5 := lt_of_block CB4.out
              have hl5 := BX4.out.lt
              go_wp2
              rw [rounds_succ]
              go_wp2
              cases hL1 : linkB f.pool x.b (tag2 x.tag) with
              | false =>
                have HCE := Lib.hid (show constE f.pool x = 7 by unfold constE linksB; rw [if_pos HR.out, HL0.out, hL1]; simp)
                have HL := Lib.hid (fun V W hW hWB => rightLink_at (B := B) false f V W hW hWB x.b (tag2 x.tag) hL1)
                clear hL1
                refine wp_region_still_tail 5 (by kernel_rfl) (by kernel_rfl) ?_
                change wpStill _ _ w5.drew _ _ _
                simp only [List.take_succ_cons, List.take_zero, List.drop_succ_cons, List.drop_zero]
                repeat still_step
                refine wpStill_nil ?_
                change wpList _ _ _ _ _ w5.drew
                go_wp2_with fail
                refine (HL.out _ w5.drew (HIW5.out.at_.keep fun _ _ => rfl) (show B ≤ w5.heap.size by omega)).mono ?_
                rintro e w6 ⟨rfl, hb⟩
                have BX5 := Lib.hid (BX4.out.drew.below hb (show w.heap.size < w5.heap.size by omega))
                have BE5 := Lib.hid (Below.link BE4.out.drew hb)
                have hlb5 := BX5.out.lt
                clear hb c0 c1 c2 c3 c4 c5 c6 t0 t1 t2
                go_wp2
                go_roundg (gk - 1)
                case measure => exact hgg
                case rel => exact ⟨k + 1, 7, rfl, by go_num, by rw [HNX.out]; exact HCE.out, by omega, BX5.out, BE5.out⟩
              | true =>
                have HL1 := Lib.hid hL1
                have HL := Lib.hid (fun V W hW hWB => rightLink_at (B := B) true f V W hW hWB x.b (tag2 x.tag) hL1)
                clear hL1
                refine wp_region_still_tail 5 (by kernel_rfl) (by kernel_rfl) ?_
                change wpStill _ _ w5.drew _ _ _
                simp only [List.take_succ_cons, List.take_zero, List.drop_succ_cons, List.drop_zero]
                repeat still_step
                refine wpStill_nil ?_
                change wpList _ _ _ _ _ w5.drew
                go_wp2_with fail
                refine (HL.out _ w5.drew (HIW5.out.at_.keep fun _ _ => rfl) (show B ≤ w5.heap.size by omega)).mono ?_
                rintro e w6 ⟨rfl, hb⟩
                have BX5 := Lib.hid (BX4.out.drew.below hb (show w.heap.size < w5.heap.size by omega))
                have BE5 := Lib.hid (Below.link BE4.out.drew hb)
                have CB5 := Lib.hid (Below.keep (w := w5.drew) hb (show C < w5.heap.size by omega) CB4.out)
                have TB5 := Lib.hid (Below.keep (w := w5.drew) hb (show T < w5.heap.size by omega) TB4.out)
                have HIW6 := Lib.hid (HIW5.out.keep (w' := w6) fun p hp => hb.cell (p := p) (show p.block < w5.heap.size by omega))
                clear hb c0 c1 c2 c3 c4 c5 c6 t0 t1 t2 HL
                obtain ⟨c0, c1, c2, c3, c4, c5, c6⟩ := BX5.out.cells
                have t0 : w6.cell? ⟨T, 0, none⟩ = some (.int .i64 (tag1 x.tag)) := cells_of TB5.out 0
                have t1 : w6.cell? ⟨T, 1, none⟩ = some (.int .i64 (tag2 x.tag)) := cells_of TB5.out 1
                have t2 : w6.cell? ⟨T, 2, none⟩ = some (.int .i64 (tag2 x.tag)) := cells_of TB5.out 2
                have hT6 := lt_of_block TB5.out
                have hC6 := lt_of_block CB5.out
                have hl6 := BX5.out.lt
                go_wp2
                rw [rounds_succ]
                go_wp2
                cases hL2 : linkB f.pool x.c (tag2 x.tag) with
                | false =>
                  have HCE := Lib.hid (show constE f.pool x = 7 by unfold constE linksB; rw [if_pos HR.out, HL0.out, HL1.out, hL2]; simp)
                  have HL := Lib.hid (fun V W hW hWB => rightLink_at (B := B) false f V W hW hWB x.c (tag2 x.tag) hL2)
                  clear hL2
                  refine wp_region_still_tail 5 (by kernel_rfl) (by kernel_rfl) ?_
                  change wpStill _ _ w6.drew _ _ _
                  simp only [List.take_succ_cons, List.take_zero, List.drop_succ_cons, List.drop_zero]
                  repeat still_step
                  refine wpStill_nil ?_
                  change wpList _ _ _ _ _ w6.drew
                  go_wp2_with fail
                  refine (HL.out _ w6.drew (HIW6.out.at_.keep fun _ _ => rfl) (show B ≤ w6.heap.size by omega)).mono ?_
                  rintro e w7 ⟨rfl, hb⟩
                  have BX5 := Lib.hid (BX5.out.drew.below hb (show w.heap.size < w6.heap.size by omega))
                  have BE5 := Lib.hid (Below.link BE5.out.drew hb)
                  have hlb5 := BX5.out.lt
                  clear hb c0 c1 c2 c3 c4 c5 c6 t0 t1 t2
                  go_wp2
                  go_roundg (gk - 1)
                  case measure => exact hgg
                  case rel => exact ⟨k + 1, 7, rfl, by go_num, by rw [HNX.out]; exact HCE.out, by omega, BX5.out, BE5.out⟩
                | true =>
                  have HL2 := Lib.hid hL2
                  have HL := Lib.hid (fun V W hW hWB => rightLink_at (B := B) true f V W hW hWB x.c (tag2 x.tag) hL2)
                  clear hL2
                  refine wp_region_still_tail 5 (by kernel_rfl) (by kernel_rfl) ?_
                  change wpStill _ _ w6.drew _ _ _
                  simp only [List.take_succ_cons, List.take_zero, List.drop_succ_cons, List.drop_zero]
                  repeat still_step
                  refine wpStill_nil ?_
                  change wpList _ _ _ _ _ w6.drew
                  go_wp2_with fail
                  refine (HL.out _ w6.drew (HIW6.out.at_.keep fun _ _ => rfl) (show B ≤ w6.heap.size by omega)).mono ?_
                  rintro e w7 ⟨rfl, hb⟩
                  have BX6 := Lib.hid (BX5.out.drew.below hb (show w.heap.size < w6.heap.size by omega))
                  have BE6 := Lib.hid (Below.link BE5.out.drew hb)
                  have CB6 := Lib.hid (Below.keep (w := w6.drew) hb (show C < w6.heap.size by omega) CB5.out)
                  have TB6 := Lib.hid (Below.keep (w := w6.drew) hb (show T < w6.heap.size by omega) TB5.out)
                  have HIW7 := Lib.hid (HIW6.out.keep (w' := w7) fun p hp => hb.cell (p := p) (show p.block < w6.heap.size by omega))
                  clear hb c0 c1 c2 c3 c4 c5 c6 t0 t1 t2 HL
                  obtain ⟨c0, c1, c2, c3, c4, c5, c6⟩ := BX6.out.cells
                  have t0 : w7.cell? ⟨T, 0, none⟩ = some (.int .i64 (tag1 x.tag)) := cells_of TB6.out 0
                  have t1 : w7.cell? ⟨T, 1, none⟩ = some (.int .i64 (tag2 x.tag)) := cells_of TB6.out 1
                  have t2 : w7.cell? ⟨T, 2, none⟩ = some (.int .i64 (tag2 x.tag)) := cells_of TB6.out 2
                  have hT7 := lt_of_block TB6.out
                  have hC7 := lt_of_block CB6.out
                  have hl7 := BX6.out.lt
                  have y0 : w7.cell? ⟨C, 0, none⟩ = some (.int .i64 x.tag) := cells_of CB6.out 0
                  have y1 : w7.cell? ⟨C, 1, none⟩ = some (.string x.text) := cells_of CB6.out 1
                  have y2 : w7.cell? ⟨C, 2, none⟩ = some (.int .i64 x.n) := cells_of CB6.out 2
                  have y3 : w7.cell? ⟨C, 3, none⟩ = some (.int .i64 x.a) := cells_of CB6.out 3
                  have y4 : w7.cell? ⟨C, 4, none⟩ = some (.int .i64 x.b) := cells_of CB6.out 4
                  have y5 : w7.cell? ⟨C, 5, none⟩ = some (.int .i64 x.c) := cells_of CB6.out 5
                  have HCE := Lib.hid (show constE f.pool x = textE f.pool x by unfold constE linksB; rw [if_pos HR.out, HL0.out, HL1.out, HL2.out]; simp)
                  go_wp2
                  rw [rounds_succ]
                  go_wp2_with fail
                  refine (textErr_any f _ _ HIW7.out.at_ (by omega) HTX.out x HXT.out).mono ?_
                  rintro e w9 ⟨rfl, hb⟩
                  have BX9 := Lib.hid (BX6.out.below hb (by omega))
                  have BE9 := Lib.hid (Below.link BE6.out hb)
                  have hlb9 := BX9.out.lt
                  clear hb c0 c1 c2 c3 c4 c5 c6 t0 t1 t2 y0 y1 y2 y3 y4 y5
                  go_wp2
                  go_roundg (gk - 1)
                  case measure => exact hgg
                  case rel => exact ⟨k + 1, _, rfl, by go_num, by rw [HNX.out]; exact HCE.out, by omega, BX9.out, BE9.out⟩
        · have hne : (E == 0) = false := by simpa using hE0
          have HST := Lib.hid (firstErr_stop (constE f.pool) f.pool k (by rw [HEK.out]; exact hE0))
          go_wp2
          try rw [Exit.noGoto_ret]
          go_ret
          exact ⟨ret_i (by rw [HE2.out, HST.out, HEK.out]), HBEL.out⟩
      · have hke : k = f.pool.length := by omega
        have HALL := Lib.hid (show firstErr (constE f.pool) f.pool = E by have := HEK.out; rwa [List.take_of_length_le (by omega)] at this)
        clear hke
        go_wp2
        try rw [Exit.noGoto_ret]
        go_ret
        exact ⟨ret_i (by rw [HE2.out, HALL.out]), HBEL.out⟩
end Go.Proofs.YtmaknddlgppinaaGreatDoor
