/-
  CUT and joined from the texts of this seat: E5
-/
import Derived.Test.YtmaknddlgppinaaGreatDoorX13
set_option linter.unusedVariables false
set_option linter.unusedSimpArgs false
/-! E5 -/
namespace Go.Proofs.YtmaknddlgppinaaGreatDoor
open Go.RowKit

def sameN (p : List Cn) (a b : Mb) : Bool := decide (textP p a.nm = textP p b.nm)
def sameD (p : List Cn) (a b : Mb) : Bool := decide (textP p a.ds = textP p b.ds)
def sameM (p : List Cn) (a b : Mb) : Bool := sameN p a b && sameD p a b
theorem le_alloc {B : Nat} {w : World} (h : B ≤ w.heap.size) (o : Obj) : B ≤ (w.alloc o).heap.size := by simp; omega
theorem L_inj {s t : ByteArray} (h : L s = L t) : s = t := by rw [← mkB_L s, ← mkB_L t, h]
theorem str_beq (s t : ByteArray) : (s.toList == t.toList) = decide (s = t) := by
  rw [Bool.eq_iff_iff, toList_data, toList_data]
  simp only [beq_iff_eq, decide_eq_true_eq]
  exact ⟨L_inj, fun h => by rw [h]⟩
/-- A member's box. -/
def MBox (b : Nat) (m : Mb) (A : Option Addr) (c : Nat) (w : World) : Prop := w.heap[b]? = some (.cells #[.int .i64 m.fl, .int .i64 m.nm, .int .i64 m.ds, .int .i64 m.ms, .int .i64 m.ml, .string m.code, .slice A m.hs.length c] 141 (0, 0))
section
variable {b : Nat} {m : Mb} {A : Option Addr} {c : Nat} {w : World}
theorem MBox.lt (h : MBox b m A c w) : b < w.heap.size := lt_of_block h
theorem MBox.alloc (h : MBox b m A c w) (o : Obj) : MBox b m A c (w.alloc o) := heap_alloc_lt h
theorem MBox.below {w' : World} {B : Nat} (h : MBox b m A c w) (hb : Below B w w') (hB : b < B) : MBox b m A c w' := Below.keep hb hB h
theorem MBox.drew (h : MBox b m A c w) : MBox b m A c w.drew := h
theorem MBox.cells (h : MBox b m A c w) : w.cell? ⟨b, 0, none⟩ = some (.int .i64 m.fl) ∧ w.cell? ⟨b, 1, none⟩ = some (.int .i64 m.nm) ∧ w.cell? ⟨b, 2, none⟩ = some (.int .i64 m.ds) ∧ w.cell? ⟨b, 3, none⟩ = some (.int .i64 m.ms) ∧
    w.cell? ⟨b, 4, none⟩ = some (.int .i64 m.ml) ∧ w.cell? ⟨b, 5, none⟩ = some (.string m.code) ∧ w.cell? ⟨b, 6, none⟩ = some (.slice A m.hs.length c) :=
  ⟨cells_of h 0, cells_of h 1, cells_of h 2, cells_of h 3, cells_of h 4, cells_of h 5, cells_of h 6⟩
end
theorem MBox.new (m : Mb) (A : Option Addr) (c : Nat) (w : World) : MBox w.heap.size m A c (w.alloc (.cells #[.int .i64 m.fl, .int .i64 m.nm, .int .i64 m.ds, .int .i64 m.ms, .int .i64 m.ml, .string m.code, .slice A m.hs.length c] 141)) := heap_new w _
set_option maxRecDepth 1000000 in
set_option maxHeartbeats 6400000 in
theorem sameName_any {B : Nat} (f : Fl) (v : Value) (w : World) (hf : FileAt B w v f) (hB : B ≤ w.heap.size) (a b : Mb) (Aa : Option Addr) (ca : Nat) (Ab : Option Addr) (cb : Nat) :
    Calls Tryz.prog 151 #[v, .agg #[.int .i64 a.fl, .int .i64 a.nm, .int .i64 a.ds, .int .i64 a.ms, .int .i64 a.ml, .string a.code, .slice Aa a.hs.length ca], .agg #[.int .i64 b.fl, .int .i64 b.nm, .int .i64 b.ds, .int .i64 b.ms, .int .i64 b.ml, .string b.code, .slice Ab b.hs.length cb]] w fun e w' => e = .returned (.bool (sameN f.pool a b)) ∧ Below w.heap.size w w' := by
  have HT := Lib.hid (fun V W hW hWB i => textOf_any (B := B) f V W hW hWB i)
  have HS := Lib.hid (show sameN f.pool a b = decide (textP f.pool a.nm = textP f.pool b.nm) from rfl)
  generalize sameN f.pool a b = R at *
  obtain ⟨Ap, cp, Ai, ci, Af, cf, Am, cm, rfl, hi⟩ := id hf
  have FL := (((hf.alloc hB (.cells #[.slice Ap f.pool.length cp, .int .i64 f.fl, .int .i64 f.this, .int .i64 f.super, .slice Ai f.ifs.length ci, .slice Af f.fds.length cf, .slice Am f.mts.length cm] 94)).alloc (le_alloc hB _) (.cells #[.int .i64 a.fl, .int .i64 a.nm, .int .i64 a.ds, .int .i64 a.ms, .int .i64 a.ml, .string a.code, .slice Aa a.hs.length ca] 141)).alloc (le_alloc (le_alloc hB _) _) (.cells #[.int .i64 b.fl, .int .i64 b.nm, .int .i64 b.ds, .int .i64 b.ms, .int .i64 b.ml, .string b.code, .slice Ab b.hs.length cb] 141)).drew
  have BE := ((((Below.refl w.heap.size w).alloc (Nat.le_refl _) (.cells #[.slice Ap f.pool.length cp, .int .i64 f.fl, .int .i64 f.this, .int .i64 f.super, .slice Ai f.ifs.length ci, .slice Af f.fds.length cf, .slice Am f.mts.length cm] 94)).alloc (le_alloc (Nat.le_refl _) _) (.cells #[.int .i64 a.fl, .int .i64 a.nm, .int .i64 a.ds, .int .i64 a.ms, .int .i64 a.ml, .string a.code, .slice Aa a.hs.length ca] 141)).alloc (le_alloc (le_alloc (Nat.le_refl _) _) _) (.cells #[.int .i64 b.fl, .int .i64 b.nm, .int .i64 b.ds, .int .i64 b.ms, .int .i64 b.ml, .string b.code, .slice Ab b.hs.length cb] 141)).drew
  have BF := ((FBox.new Ap cp Ai ci Af cf Am cm f w).alloc (.cells #[.int .i64 a.fl, .int .i64 a.nm, .int .i64 a.ds, .int .i64 a.ms, .int .i64 a.ml, .string a.code, .slice Aa a.hs.length ca] 141)).alloc (.cells #[.int .i64 b.fl, .int .i64 b.nm, .int .i64 b.ds, .int .i64 b.ms, .int .i64 b.ml, .string b.code, .slice Ab b.hs.length cb] 141)
  have BA := (MBox.new a Aa ca (w.alloc (.cells #[.slice Ap f.pool.length cp, .int .i64 f.fl, .int .i64 f.this, .int .i64 f.super, .slice Ai f.ifs.length ci, .slice Af f.fds.length cf, .slice Am f.mts.length cm] 94))).alloc (.cells #[.int .i64 b.fl, .int .i64 b.nm, .int .i64 b.ds, .int .i64 b.ms, .int .i64 b.ml, .string b.code, .slice Ab b.hs.length cb] 141)
  have BB := MBox.new b Ab cb ((w.alloc (.cells #[.slice Ap f.pool.length cp, .int .i64 f.fl, .int .i64 f.this, .int .i64 f.super, .slice Ai f.ifs.length ci, .slice Af f.fds.length cf, .slice Am f.mts.length cm] 94)).alloc (.cells #[.int .i64 a.fl, .int .i64 a.nm, .int .i64 a.ds, .int .i64 a.ms, .int .i64 a.ml, .string a.code, .slice Aa a.hs.length ca] 141))
  simp only [World.size_alloc] at BA BB
  clear hi hf
  go_enter Tryz.func151, Tryz.ntmps151
  go_wp2
  generalize ((w.alloc (.cells #[.slice Ap f.pool.length cp, .int .i64 f.fl, .int .i64 f.this, .int .i64 f.super, .slice Ai f.ifs.length ci, .slice Af f.fds.length cf, .slice Am f.mts.length cm] 94)).alloc (.cells #[.int .i64 a.fl, .int .i64 a.nm, .int .i64 a.ds, .int .i64 a.ms, .int .i64 a.ml, .string a.code, .slice Aa a.hs.length ca] 141)).alloc (.cells #[.int .i64 b.fl, .int .i64 b.nm, .int .i64 b.ds, .int .i64 b.ms, .int .i64 b.ml, .string b.code, .slice Ab b.hs.length cb] 141) = W at *
  have hsz : w.heap.size + 3 ≤ W.heap.size := by have := BB.lt; omega
  have BWE := Lib.hid BE
  obtain ⟨c0, c1, c2, c3, c4, c5, c6⟩ := BF.cells
  obtain ⟨a0, a1, a2, a3, a4, a5, a6⟩ := BA.cells
  obtain ⟨b0, b1, b2, b3, b4, b5, b6⟩ := BB.cells
  clear BF BA BB
  go_region_held3 (fun w' => w'.cell? ⟨w.heap.size, 0, none⟩ = some (.slice Ap f.pool.length cp) ∧ w'.cell? ⟨w.heap.size, 1, none⟩ = some (.int .i64 f.fl) ∧ w'.cell? ⟨w.heap.size, 2, none⟩ = some (.int .i64 f.this) ∧ w'.cell? ⟨w.heap.size, 3, none⟩ = some (.int .i64 f.super) ∧ w'.cell? ⟨w.heap.size, 4, none⟩ = some (.slice Ai f.ifs.length ci) ∧ w'.cell? ⟨w.heap.size, 5, none⟩ = some (.slice Af f.fds.length cf) ∧ w'.cell? ⟨w.heap.size, 6, none⟩ = some (.slice Am f.mts.length cm) ∧ w'.cell? ⟨w.heap.size + 1, 1, none⟩ = some (.int .i64 a.nm) ∧ w'.cell? ⟨w.heap.size + 1 + 1, 1, none⟩ = some (.int .i64 b.nm) ∧ FileAt B w' (.agg #[.slice Ap f.pool.length cp, .int .i64 f.fl, .int .i64 f.this, .int .i64 f.super, .slice Ai f.ifs.length ci, .slice Af f.fds.length cf, .slice Am f.mts.length cm]) f ∧ w.heap.size + 3 ≤ w'.heap.size ∧ Below w.heap.size w w')
    (first
      | exact ⟨c0, c1, c2, c3, c4, c5, c6, a1, b1, FL, hsz, BE⟩
      | (go_split_ands
         refine ⟨?_, ?_, ?_, ?_, ?_, ?_, ?_, ?_, ?_, ?_, ?_, ?_⟩
         all_goals first
           | assumption
           | exact keepc hb (B := w.heap.size + 3) (by omega) (by omega) (by assumption)
           | exact FileAt.below (by assumption) hb (by omega)
           | exact Nat.le_trans (by assumption) hb.size
           | exact Below.link (by assumption) hb))
    ((go_at_call 180; refine (HT.out _ _ (by first | assumption | (go_split_ands; assumption)) (by go_split_ands; omega) _).mono ?_; rintro e wi ⟨rfl, hb⟩))
  all_goals
    go_split_ands
    have HB2 := Lib.hid (show Below w.heap.size w _ by assumption)
    go_wp2
    go_ret
    exact ⟨ret_b (by rw [HS.out]; exact str_beq _ _), HB2.out⟩
theorem sameName_at {B : Nat} (r : Bool) (f : Fl) (v : Value) (w : World) (hf : FileAt B w v f) (hB : B ≤ w.heap.size) (a b : Mb) (Aa : Option Addr) (ca : Nat) (Ab : Option Addr) (cb : Nat) (h : sameN f.pool a b = r) :
    Calls Tryz.prog 151 #[v, .agg #[.int .i64 a.fl, .int .i64 a.nm, .int .i64 a.ds, .int .i64 a.ms, .int .i64 a.ml, .string a.code, .slice Aa a.hs.length ca], .agg #[.int .i64 b.fl, .int .i64 b.nm, .int .i64 b.ds, .int .i64 b.ms, .int .i64 b.ml, .string b.code, .slice Ab b.hs.length cb]] w fun e w' => e = .returned (.bool r) ∧ Below w.heap.size w w' := by
  have := sameName_any f v w hf hB a b Aa ca Ab cb
  rwa [h] at this
set_option maxRecDepth 1000000 in
set_option maxHeartbeats 6400000 in
theorem sameMethod_any {B : Nat} (f : Fl) (v : Value) (w : World) (hf : FileAt B w v f) (hB : B ≤ w.heap.size) (a b : Mb) (Aa : Option Addr) (ca : Nat) (Ab : Option Addr) (cb : Nat) :
    Calls Tryz.prog 154 #[v, .agg #[.int .i64 a.fl, .int .i64 a.nm, .int .i64 a.ds, .int .i64 a.ms, .int .i64 a.ml, .string a.code, .slice Aa a.hs.length ca], .agg #[.int .i64 b.fl, .int .i64 b.nm, .int .i64 b.ds, .int .i64 b.ms, .int .i64 b.ml, .string b.code, .slice Ab b.hs.length cb]] w fun e w' => e = .returned (.bool (sameM f.pool a b)) ∧ Below w.heap.size w w' := by
  cases hN : sameN f.pool a b with
  | false =>
    have HC := Lib.hid (fun V W hW hWB => sameName_at (B := B) false f V W hW hWB a b Aa ca Ab cb hN)
    have HS := Lib.hid (show sameM f.pool a b = false by unfold sameM; rw [hN]; rfl)
    generalize sameM f.pool a b = R at *
    clear hN
    obtain ⟨Ap, cp, Ai, ci, Af, cf, Am, cm, rfl, hi⟩ := id hf
    have FL := (((hf.alloc hB (.cells #[.slice Ap f.pool.length cp, .int .i64 f.fl, .int .i64 f.this, .int .i64 f.super, .slice Ai f.ifs.length ci, .slice Af f.fds.length cf, .slice Am f.mts.length cm] 94)).alloc (le_alloc hB _) (.cells #[.int .i64 a.fl, .int .i64 a.nm, .int .i64 a.ds, .int .i64 a.ms, .int .i64 a.ml, .string a.code, .slice Aa a.hs.length ca] 141)).alloc (le_alloc (le_alloc hB _) _) (.cells #[.int .i64 b.fl, .int .i64 b.nm, .int .i64 b.ds, .int .i64 b.ms, .int .i64 b.ml, .string b.code, .slice Ab b.hs.length cb] 141)).drew
    have BE := ((((Below.refl w.heap.size w).alloc (Nat.le_refl _) (.cells #[.slice Ap f.pool.length cp, .int .i64 f.fl, .int .i64 f.this, .int .i64 f.super, .slice Ai f.ifs.length ci, .slice Af f.fds.length cf, .slice Am f.mts.length cm] 94)).alloc (le_alloc (Nat.le_refl _) _) (.cells #[.int .i64 a.fl, .int .i64 a.nm, .int .i64 a.ds, .int .i64 a.ms, .int .i64 a.ml, .string a.code, .slice Aa a.hs.length ca] 141)).alloc (le_alloc (le_alloc (Nat.le_refl _) _) _) (.cells #[.int .i64 b.fl, .int .i64 b.nm, .int .i64 b.ds, .int .i64 b.ms, .int .i64 b.ml, .string b.code, .slice Ab b.hs.length cb] 141)).drew
    have BF := ((FBox.new Ap cp Ai ci Af cf Am cm f w).alloc (.cells #[.int .i64 a.fl, .int .i64 a.nm, .int .i64 a.ds, .int .i64 a.ms, .int .i64 a.ml, .string a.code, .slice Aa a.hs.length ca] 141)).alloc (.cells #[.int .i64 b.fl, .int .i64 b.nm, .int .i64 b.ds, .int .i64 b.ms, .int .i64 b.ml, .string b.code, .slice Ab b.hs.length cb] 141)
    have BA := (MBox.new a Aa ca (w.alloc (.cells #[.slice Ap f.pool.length cp, .int .i64 f.fl, .int .i64 f.this, .int .i64 f.super, .slice Ai f.ifs.length ci, .slice Af f.fds.length cf, .slice Am f.mts.length cm] 94))).alloc (.cells #[.int .i64 b.fl, .int .i64 b.nm, .int .i64 b.ds, .int .i64 b.ms, .int .i64 b.ml, .string b.code, .slice Ab b.hs.length cb] 141)
    have BB := MBox.new b Ab cb ((w.alloc (.cells #[.slice Ap f.pool.length cp, .int .i64 f.fl, .int .i64 f.this, .int .i64 f.super, .slice Ai f.ifs.length ci, .slice Af f.fds.length cf, .slice Am f.mts.length cm] 94)).alloc (.cells #[.int .i64 a.fl, .int .i64 a.nm, .int .i64 a.ds, .int .i64 a.ms, .int .i64 a.ml, .string a.code, .slice Aa a.hs.length ca] 141))
    simp only [World.size_alloc] at BA BB
    clear hi hf
    go_enter Tryz.func154, Tryz.ntmps154
    go_wp2
    generalize ((w.alloc (.cells #[.slice Ap f.pool.length cp, .int .i64 f.fl, .int .i64 f.this, .int .i64 f.super, .slice Ai f.ifs.length ci, .slice Af f.fds.length cf, .slice Am f.mts.length cm] 94)).alloc (.cells #[.int .i64 a.fl, .int .i64 a.nm, .int .i64 a.ds, .int .i64 a.ms, .int .i64 a.ml, .string a.code, .slice Aa a.hs.length ca] 141)).alloc (.cells #[.int .i64 b.fl, .int .i64 b.nm, .int .i64 b.ds, .int .i64 b.ms, .int .i64 b.ml, .string b.code, .slice Ab b.hs.length cb] 141) = W at *
    have hsz : w.heap.size + 3 ≤ W.heap.size := by have := BB.lt; omega
    have BWE := Lib.hid BE
    obtain ⟨c0, c1, c2, c3, c4, c5, c6⟩ := BF.cells
    obtain ⟨a0, a1, a2, a3, a4, a5, a6⟩ := BA.cells
    obtain ⟨b0, b1, b2, b3, b4, b5, b6⟩ := BB.cells
    clear BF BA BB
    refine wp_region_held_drew (S := (fun w' => w'.cell? ⟨w.heap.size, 0, none⟩ = some (.slice Ap f.pool.length cp) ∧ w'.cell? ⟨w.heap.size, 1, none⟩ = some (.int .i64 f.fl) ∧ w'.cell? ⟨w.heap.size, 2, none⟩ = some (.int .i64 f.this) ∧ w'.cell? ⟨w.heap.size, 3, none⟩ = some (.int .i64 f.super) ∧ w'.cell? ⟨w.heap.size, 4, none⟩ = some (.slice Ai f.ifs.length ci) ∧ w'.cell? ⟨w.heap.size, 5, none⟩ = some (.slice Af f.fds.length cf) ∧ w'.cell? ⟨w.heap.size, 6, none⟩ = some (.slice Am f.mts.length cm) ∧ w'.cell? ⟨w.heap.size + 1, 0, none⟩ = some (.int .i64 a.fl) ∧ w'.cell? ⟨w.heap.size + 1, 1, none⟩ = some (.int .i64 a.nm) ∧ w'.cell? ⟨w.heap.size + 1, 2, none⟩ = some (.int .i64 a.ds) ∧ w'.cell? ⟨w.heap.size + 1, 3, none⟩ = some (.int .i64 a.ms) ∧ w'.cell? ⟨w.heap.size + 1, 4, none⟩ = some (.int .i64 a.ml) ∧ w'.cell? ⟨w.heap.size + 1, 5, none⟩ = some (.string a.code) ∧ w'.cell? ⟨w.heap.size + 1, 6, none⟩ = some (.slice Aa a.hs.length ca) ∧ w'.cell? ⟨w.heap.size + 1 + 1, 0, none⟩ = some (.int .i64 b.fl) ∧ w'.cell? ⟨w.heap.size + 1 + 1, 1, none⟩ = some (.int .i64 b.nm) ∧ w'.cell? ⟨w.heap.size + 1 + 1, 2, none⟩ = some (.int .i64 b.ds) ∧ w'.cell? ⟨w.heap.size + 1 + 1, 3, none⟩ = some (.int .i64 b.ms) ∧ w'.cell? ⟨w.heap.size + 1 + 1, 4, none⟩ = some (.int .i64 b.ml) ∧ w'.cell? ⟨w.heap.size + 1 + 1, 5, none⟩ = some (.string b.code) ∧ w'.cell? ⟨w.heap.size + 1 + 1, 6, none⟩ = some (.slice Ab b.hs.length cb) ∧ FileAt B w' (.agg #[.slice Ap f.pool.length cp, .int .i64 f.fl, .int .i64 f.this, .int .i64 f.super, .slice Ai f.ifs.length ci, .slice Af f.fds.length cf, .slice Am f.mts.length cm]) f ∧ w.heap.size + 3 ≤ w'.heap.size ∧ Below w.heap.size w w')) (by kernel_rfl) ⟨c0, c1, c2, c3, c4, c5, c6, a0, a1, a2, a3, a4, a5, a6, b0, b1, b2, b3, b4, b5, b6, FL, hsz, BE⟩ (fun hHeld => ?_)
    refine wpAnyH_take (i := 0) (oi := ({ dst := some 7, op := Op.load 94 (Operand.tmp 3), type := 94, pos := "right.go:194", after := #[], guard := none } : Oper)) (v := ?v1x0) rfl (by kernel_rfl) (by kernel_rfl) (by kernel_rfl) (fun _ _ _ h => h) (Or.inl ⟨by rfl, ?hy1x0⟩) hHeld ?_
    case hy1x0 => ((intro w hSw); (try dsimp only at hSw); go_simp; try with_reducible rfl)
    try simp only [Act.put, List.setIfInBounds_toArray, List.set_cons_zero, List.set_cons_succ]
    refine wpAnyH_take (i := 1) (oi := ({ dst := some 8, op := Op.load 141 (Operand.tmp 4), type := 141, pos := "right.go:194", after := #[], guard := none } : Oper)) (v := ?v1x1) rfl (by kernel_rfl) (by kernel_rfl) (by kernel_rfl) (fun _ _ _ h => h) (Or.inl ⟨by rfl, ?hy1x1⟩) hHeld ?_
    case hy1x1 => ((intro w hSw); (try dsimp only at hSw); go_simp; try with_reducible rfl)
    try simp only [Act.put, List.setIfInBounds_toArray, List.set_cons_zero, List.set_cons_succ]
    refine wpAnyH_take (i := 2) (oi := ({ dst := some 9, op := Op.load 141 (Operand.tmp 5), type := 141, pos := "right.go:194", after := #[], guard := none } : Oper)) (v := ?v1x2) rfl (by kernel_rfl) (by kernel_rfl) (by kernel_rfl) (fun _ _ _ h => h) (Or.inl ⟨by rfl, ?hy1x2⟩) hHeld ?_
    case hy1x2 => ((intro w hSw); (try dsimp only at hSw); go_simp; try with_reducible rfl)
    try simp only [Act.put, List.setIfInBounds_toArray, List.set_cons_zero, List.set_cons_succ]
    refine wpAnyH_ready (rs := [3]) (by kernel_rfl) (by simp) ?_
    refine AllReadyH.cons (o := ({ dst := some 10, op := Op.call { callee := Callee.value (Operand.func 151), args := #[Operand.tmp 7, Operand.tmp 8, Operand.tmp 9], argTypes := #[94, 141, 141] }, type := 4, pos := "right.go:194", after := #[{ on := 0, ground := Ground.data }, { on := 1, ground := Ground.data }, { on := 2, ground := Ground.data }], guard := none } : Oper)) rfl (fun K hK => ?_) AllReadyH.nil
    go_simp
    go_at_call 151
    refine (HC.out _ W.drew FL (show B ≤ W.heap.size by omega)).mono ?_
    rintro e wi ⟨rfl, hb⟩
    try go_wp2_with fail
    refine hK.out _ _ ?_ (fun hHeld2 => ?_)
    · try dsimp only
      try dsimp only at hHeld
      go_split_ands
      refine ⟨?_, ?_, ?_, ?_, ?_, ?_, ?_, ?_, ?_, ?_, ?_, ?_, ?_, ?_, ?_, ?_, ?_, ?_, ?_, ?_, ?_, ?_, ?_, ?_⟩
      all_goals first
        | exact keepc hb (B := w.heap.size + 3) (by omega) (by omega) (by assumption)
        | exact FileAt.below (by assumption) hb (by omega)
        | exact Nat.le_trans (by assumption) hb.size
        | exact Below.link (by assumption) hb
    clear hK K hHeld
    try simp only [Act.put, List.setIfInBounds_toArray, List.set_cons_zero, List.set_cons_succ]
    refine wpAnyH_take (i := 4) (oi := ({ dst := some 11, op := Op.move (Operand.tmp 10), type := 4, pos := "right.go:194", after := #[{ on := 3, ground := Ground.data }, { on := 3, ground := Ground.chain }], guard := none } : Oper)) (v := ?v1x4) rfl (by kernel_rfl) (by kernel_rfl) (by kernel_rfl) (fun _ _ _ h => h) (Or.inl ⟨by rfl, ?hy1x4⟩) hHeld2 ?_
    case hy1x4 => ((intro w hSw); (try dsimp only at hSw); go_simp; try with_reducible rfl)
    try simp only [Act.put, List.setIfInBounds_toArray, List.set_cons_zero, List.set_cons_succ]
    refine wpAnyH_take (i := 5) (oi := ({ dst := some 12, op := Op.load 94 (Operand.tmp 3), type := 94, pos := "right.go:194", after := #[{ on := 4, ground := Ground.guard }], guard := some (4, true) } : Oper)) (v := undef) rfl (by kernel_rfl) (by kernel_rfl) (by kernel_rfl) (fun _ _ _ h => h) (Or.inr ⟨by rfl, rfl⟩) hHeld2 ?_
    try simp only [Act.put, List.setIfInBounds_toArray, List.set_cons_zero, List.set_cons_succ]
    refine wpAnyH_take (i := 6) (oi := ({ dst := some 13, op := Op.fieldAddr 141 (Operand.tmp 4) 2, type := 0, pos := "right.go:194", after := #[{ on := 4, ground := Ground.guard }], guard := some (4, true) } : Oper)) (v := undef) rfl (by kernel_rfl) (by kernel_rfl) (by kernel_rfl) (fun _ _ _ h => h) (Or.inr ⟨by rfl, rfl⟩) hHeld2 ?_
    try simp only [Act.put, List.setIfInBounds_toArray, List.set_cons_zero, List.set_cons_succ]
    refine wpAnyH_take (i := 7) (oi := ({ dst := some 14, op := Op.load 3 (Operand.tmp 13), type := 3, pos := "right.go:194", after := #[{ on := 6, ground := Ground.data }, { on := 4, ground := Ground.guard }], guard := some (4, true) } : Oper)) (v := undef) rfl (by kernel_rfl) (by kernel_rfl) (by kernel_rfl) (fun _ _ _ h => h) (Or.inr ⟨by rfl, rfl⟩) hHeld2 ?_
    try simp only [Act.put, List.setIfInBounds_toArray, List.set_cons_zero, List.set_cons_succ]
    refine wpAnyH_take (i := 8) (oi := ({ dst := some 15, op := Op.call { callee := Callee.value (Operand.func 180), args := #[Operand.tmp 12, Operand.tmp 14], argTypes := #[94, 3] }, type := 9, pos := "right.go:194", after := #[{ on := 5, ground := Ground.data }, { on := 7, ground := Ground.data }, { on := 4, ground := Ground.chain }, { on := 4, ground := Ground.guard }], guard := some (4, true) } : Oper)) (v := undef) rfl (by kernel_rfl) (by kernel_rfl) (by kernel_rfl) (fun _ _ _ h => h) (Or.inr ⟨by rfl, rfl⟩) hHeld2 ?_
    try simp only [Act.put, List.setIfInBounds_toArray, List.set_cons_zero, List.set_cons_succ]
    refine wpAnyH_take (i := 9) (oi := ({ dst := some 16, op := Op.load 94 (Operand.tmp 3), type := 94, pos := "right.go:194", after := #[{ on := 4, ground := Ground.guard }], guard := some (4, true) } : Oper)) (v := undef) rfl (by kernel_rfl) (by kernel_rfl) (by kernel_rfl) (fun _ _ _ h => h) (Or.inr ⟨by rfl, rfl⟩) hHeld2 ?_
    try simp only [Act.put, List.setIfInBounds_toArray, List.set_cons_zero, List.set_cons_succ]
    refine wpAnyH_take (i := 10) (oi := ({ dst := some 17, op := Op.fieldAddr 141 (Operand.tmp 5) 2, type := 0, pos := "right.go:194", after := #[{ on := 4, ground := Ground.guard }], guard := some (4, true) } : Oper)) (v := undef) rfl (by kernel_rfl) (by kernel_rfl) (by kernel_rfl) (fun _ _ _ h => h) (Or.inr ⟨by rfl, rfl⟩) hHeld2 ?_
    try simp only [Act.put, List.setIfInBounds_toArray, List.set_cons_zero, List.set_cons_succ]
    refine wpAnyH_take (i := 11) (oi := ({ dst := some 18, op := Op.load 3 (Operand.tmp 17), type := 3, pos := "right.go:194", after := #[{ on := 10, ground := Ground.data }, { on := 4, ground := Ground.guard }], guard := some (4, true) } : Oper)) (v := undef) rfl (by kernel_rfl) (by kernel_rfl) (by kernel_rfl) (fun _ _ _ h => h) (Or.inr ⟨by rfl, rfl⟩) hHeld2 ?_
    try simp only [Act.put, List.setIfInBounds_toArray, List.set_cons_zero, List.set_cons_succ]
    refine wpAnyH_take (i := 12) (oi := ({ dst := some 19, op := Op.call { callee := Callee.value (Operand.func 180), args := #[Operand.tmp 16, Operand.tmp 18], argTypes := #[94, 3] }, type := 9, pos := "right.go:194", after := #[{ on := 9, ground := Ground.data }, { on := 11, ground := Ground.data }, { on := 8, ground := Ground.chain }, { on := 4, ground := Ground.guard }], guard := some (4, true) } : Oper)) (v := undef) rfl (by kernel_rfl) (by kernel_rfl) (by kernel_rfl) (fun _ _ _ h => h) (Or.inr ⟨by rfl, rfl⟩) hHeld2 ?_
    try simp only [Act.put, List.setIfInBounds_toArray, List.set_cons_zero, List.set_cons_succ]
    refine wpAnyH_take (i := 13) (oi := ({ dst := some 20, op := Op.binOp BinOp.eql 9 (Operand.tmp 15) (Operand.tmp 19) 9, type := 4, pos := "right.go:194", after := #[{ on := 8, ground := Ground.data }, { on := 12, ground := Ground.data }, { on := 4, ground := Ground.guard }], guard := some (4, true) } : Oper)) (v := undef) rfl (by kernel_rfl) (by kernel_rfl) (by kernel_rfl) (fun _ _ _ h => h) (Or.inr ⟨by rfl, rfl⟩) hHeld2 ?_
    try simp only [Act.put, List.setIfInBounds_toArray, List.set_cons_zero, List.set_cons_succ]
    refine wpAnyH_take (i := 14) (oi := ({ dst := some 21, op := Op.pick (Operand.tmp 11) (Operand.tmp 20) (Operand.const (Value.bool false)), type := 4, pos := "right.go:194", after := #[{ on := 4, ground := Ground.data }, { on := 13, ground := Ground.data }], guard := none } : Oper)) (v := ?v1x14) rfl (by kernel_rfl) (by kernel_rfl) (by kernel_rfl) (fun _ _ _ h => h) (Or.inl ⟨by rfl, ?hy1x14⟩) hHeld2 ?_
    case hy1x14 => ((intro w hSw); (try dsimp only at hSw); go_simp; try with_reducible rfl)
    try simp only [Act.put, List.setIfInBounds_toArray, List.set_cons_zero, List.set_cons_succ]
    refine wpAnyH_take (i := 15) (oi := ({ dst := some 6, op := Op.assign (Operand.tmp 21), type := 4, pos := "right.go:194", after := #[{ on := 14, ground := Ground.data }, { on := 12, ground := Ground.chain }, { on := 0, ground := Ground.phase }, { on := 1, ground := Ground.phase }, { on := 2, ground := Ground.phase }, { on := 3, ground := Ground.phase }, { on := 4, ground := Ground.phase }, { on := 5, ground := Ground.phase }, { on := 6, ground := Ground.phase }, { on := 7, ground := Ground.phase }, { on := 8, ground := Ground.phase }, { on := 9, ground := Ground.phase }, { on := 10, ground := Ground.phase }, { on := 11, ground := Ground.phase }, { on := 12, ground := Ground.phase }, { on := 13, ground := Ground.phase }, { on := 14, ground := Ground.phase }], guard := none } : Oper)) (v := ?v1x15) rfl (by kernel_rfl) (by kernel_rfl) (by kernel_rfl) (fun _ _ _ h => h) (Or.inl ⟨by rfl, ?hy1x15⟩) hHeld2 ?_
    case hy1x15 => ((intro w hSw); (try dsimp only at hSw); go_simp; try with_reducible rfl)
    try simp only [Act.put, List.setIfInBounds_toArray, List.set_cons_zero, List.set_cons_succ]
    refine wpAnyH_done (by kernel_rfl) ?_ _
    try dsimp only at hHeld2
    go_split_ands
    have HB2 := Lib.hid (show Below w.heap.size w _ by assumption)
    go_wp2
    go_ret
    exact ⟨ret_b HS.out.symm, HB2.out⟩
  | true =>
    have HC := Lib.hid (fun V W hW hWB => sameName_at (B := B) true f V W hW hWB a b Aa ca Ab cb hN)
    have HT := Lib.hid (fun V W hW hWB i => textOf_any (B := B) f V W hW hWB i)
    have HS := Lib.hid (show sameM f.pool a b = decide (textP f.pool a.ds = textP f.pool b.ds) by unfold sameM sameD; rw [hN]; rfl)
    generalize sameM f.pool a b = R at *
    clear hN
    obtain ⟨Ap, cp, Ai, ci, Af, cf, Am, cm, rfl, hi⟩ := id hf
    have FL := (((hf.alloc hB (.cells #[.slice Ap f.pool.length cp, .int .i64 f.fl, .int .i64 f.this, .int .i64 f.super, .slice Ai f.ifs.length ci, .slice Af f.fds.length cf, .slice Am f.mts.length cm] 94)).alloc (le_alloc hB _) (.cells #[.int .i64 a.fl, .int .i64 a.nm, .int .i64 a.ds, .int .i64 a.ms, .int .i64 a.ml, .string a.code, .slice Aa a.hs.length ca] 141)).alloc (le_alloc (le_alloc hB _) _) (.cells #[.int .i64 b.fl, .int .i64 b.nm, .int .i64 b.ds, .int .i64 b.ms, .int .i64 b.ml, .string b.code, .slice Ab b.hs.length cb] 141)).drew
    have BE := ((((Below.refl w.heap.size w).alloc (Nat.le_refl _) (.cells #[.slice Ap f.pool.length cp, .int .i64 f.fl, .int .i64 f.this, .int .i64 f.super, .slice Ai f.ifs.length ci, .slice Af f.fds.length cf, .slice Am f.mts.length cm] 94)).alloc (le_alloc (Nat.le_refl _) _) (.cells #[.int .i64 a.fl, .int .i64 a.nm, .int .i64 a.ds, .int .i64 a.ms, .int .i64 a.ml, .string a.code, .slice Aa a.hs.length ca] 141)).alloc (le_alloc (le_alloc (Nat.le_refl _) _) _) (.cells #[.int .i64 b.fl, .int .i64 b.nm, .int .i64 b.ds, .int .i64 b.ms, .int .i64 b.ml, .string b.code, .slice Ab b.hs.length cb] 141)).drew
    have BF := ((FBox.new Ap cp Ai ci Af cf Am cm f w).alloc (.cells #[.int .i64 a.fl, .int .i64 a.nm, .int .i64 a.ds, .int .i64 a.ms, .int .i64 a.ml, .string a.code, .slice Aa a.hs.length ca] 141)).alloc (.cells #[.int .i64 b.fl, .int .i64 b.nm, .int .i64 b.ds, .int .i64 b.ms, .int .i64 b.ml, .string b.code, .slice Ab b.hs.length cb] 141)
    have BA := (MBox.new a Aa ca (w.alloc (.cells #[.slice Ap f.pool.length cp, .int .i64 f.fl, .int .i64 f.this, .int .i64 f.super, .slice Ai f.ifs.length ci, .slice Af f.fds.length cf, .slice Am f.mts.length cm] 94))).alloc (.cells #[.int .i64 b.fl, .int .i64 b.nm, .int .i64 b.ds, .int .i64 b.ms, .int .i64 b.ml, .string b.code, .slice Ab b.hs.length cb] 141)
    have BB := MBox.new b Ab cb ((w.alloc (.cells #[.slice Ap f.pool.length cp, .int .i64 f.fl, .int .i64 f.this, .int .i64 f.super, .slice Ai f.ifs.length ci, .slice Af f.fds.length cf, .slice Am f.mts.length cm] 94)).alloc (.cells #[.int .i64 a.fl, .int .i64 a.nm, .int .i64 a.ds, .int .i64 a.ms, .int .i64 a.ml, .string a.code, .slice Aa a.hs.length ca] 141))
    simp only [World.size_alloc] at BA BB
    clear hi hf
    go_enter Tryz.func154, Tryz.ntmps154
    go_wp2
    generalize ((w.alloc (.cells #[.slice Ap f.pool.length cp, .int .i64 f.fl, .int .i64 f.this, .int .i64 f.super, .slice Ai f.ifs.length ci, .slice Af f.fds.length cf, .slice Am f.mts.length cm] 94)).alloc (.cells #[.int .i64 a.fl, .int .i64 a.nm, .int .i64 a.ds, .int .i64 a.ms, .int .i64 a.ml, .string a.code, .slice Aa a.hs.length ca] 141)).alloc (.cells #[.int .i64 b.fl, .int .i64 b.nm, .int .i64 b.ds, .int .i64 b.ms, .int .i64 b.ml, .string b.code, .slice Ab b.hs.length cb] 141) = W at *
    have hsz : w.heap.size + 3 ≤ W.heap.size := by have := BB.lt; omega
    have BWE := Lib.hid BE
    obtain ⟨c0, c1, c2, c3, c4, c5, c6⟩ := BF.cells
    obtain ⟨a0, a1, a2, a3, a4, a5, a6⟩ := BA.cells
    obtain ⟨b0, b1, b2, b3, b4, b5, b6⟩ := BB.cells
    clear BF BA BB
    go_region_held3 (fun w' => w'.cell? ⟨w.heap.size, 0, none⟩ = some (.slice Ap f.pool.length cp) ∧ w'.cell? ⟨w.heap.size, 1, none⟩ = some (.int .i64 f.fl) ∧ w'.cell? ⟨w.heap.size, 2, none⟩ = some (.int .i64 f.this) ∧ w'.cell? ⟨w.heap.size, 3, none⟩ = some (.int .i64 f.super) ∧ w'.cell? ⟨w.heap.size, 4, none⟩ = some (.slice Ai f.ifs.length ci) ∧ w'.cell? ⟨w.heap.size, 5, none⟩ = some (.slice Af f.fds.length cf) ∧ w'.cell? ⟨w.heap.size, 6, none⟩ = some (.slice Am f.mts.length cm) ∧ w'.cell? ⟨w.heap.size + 1, 0, none⟩ = some (.int .i64 a.fl) ∧ w'.cell? ⟨w.heap.size + 1, 1, none⟩ = some (.int .i64 a.nm) ∧ w'.cell? ⟨w.heap.size + 1, 2, none⟩ = some (.int .i64 a.ds) ∧ w'.cell? ⟨w.heap.size + 1, 3, none⟩ = some (.int .i64 a.ms) ∧ w'.cell? ⟨w.heap.size + 1, 4, none⟩ = some (.int .i64 a.ml) ∧ w'.cell? ⟨w.heap.size + 1, 5, none⟩ = some (.string a.code) ∧ w'.cell? ⟨w.heap.size + 1, 6, none⟩ = some (.slice Aa a.hs.length ca) ∧ w'.cell? ⟨w.heap.size + 1 + 1, 0, none⟩ = some (.int .i64 b.fl) ∧ w'.cell? ⟨w.heap.size + 1 + 1, 1, none⟩ = some (.int .i64 b.nm) ∧ w'.cell? ⟨w.heap.size + 1 + 1, 2, none⟩ = some (.int .i64 b.ds) ∧ w'.cell? ⟨w.heap.size + 1 + 1, 3, none⟩ = some (.int .i64 b.ms) ∧ w'.cell? ⟨w.heap.size + 1 + 1, 4, none⟩ = some (.int .i64 b.ml) ∧ w'.cell? ⟨w.heap.size + 1 + 1, 5, none⟩ = some (.string b.code) ∧ w'.cell? ⟨w.heap.size + 1 + 1, 6, none⟩ = some (.slice Ab b.hs.length cb) ∧ FileAt B w' (.agg #[.slice Ap f.pool.length cp, .int .i64 f.fl, .int .i64 f.this, .int .i64 f.super, .slice Ai f.ifs.length ci, .slice Af f.fds.length cf, .slice Am f.mts.length cm]) f ∧ w.heap.size + 3 ≤ w'.heap.size ∧ Below w.heap.size w w')
      (first
        | exact ⟨c0, c1, c2, c3, c4, c5, c6, a0, a1, a2, a3, a4, a5, a6, b0, b1, b2, b3, b4, b5, b6, FL, hsz, BE⟩
        | (go_split_ands
           refine ⟨?_, ?_, ?_, ?_, ?_, ?_, ?_, ?_, ?_, ?_, ?_, ?_, ?_, ?_, ?_, ?_, ?_, ?_, ?_, ?_, ?_, ?_, ?_, ?_⟩
           all_goals first
             | assumption
             | exact keepc hb (B := w.heap.size + 3) (by omega) (by omega) (by assumption)
             | exact FileAt.below (by assumption) hb (by omega)
             | exact Nat.le_trans (by assumption) hb.size
             | exact Below.link (by assumption) hb))
      ((first | (go_at_call 151; refine (HC.out _ _ (by first | assumption | (go_split_ands; assumption)) (by go_split_ands; omega)).mono ?_; rintro e wi ⟨rfl, hb⟩) | (go_at_call 180; refine (HT.out _ _ (by first | assumption | (go_split_ands; assumption)) (by go_split_ands; omega) _).mono ?_; rintro e wi ⟨rfl, hb⟩)))
    all_goals
      go_split_ands
      have HB2 := Lib.hid (show Below w.heap.size w _ by assumption)
      go_wp2
      go_ret
      exact ⟨ret_b (by rw [HS.out]; exact str_beq _ _), HB2.out⟩
end Go.Proofs.YtmaknddlgppinaaGreatDoor
