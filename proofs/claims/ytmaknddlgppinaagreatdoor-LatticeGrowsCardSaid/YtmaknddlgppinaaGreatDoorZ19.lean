/-
  CUT and joined from the texts of this seat: H1 D3 D4 D5
-/
import Derived.Test.YtmaknddlgppinaaGreatDoorZ05
import Derived.Test.YtmaknddlgppinaaGreatDoorZ12
import Derived.StillTailTactics
import Derived.Deep.RegionHeld3
import Derived.IntWalk
set_option linter.unusedVariables false
set_option linter.unusedSimpArgs false
namespace Go.Proofs.YtmaknddlgppinaaGreatDoor
open Go.RowKit
/-- The link i leads to a constant with the tag t. -/
def tagged (p : List Cn) (i t : Int) : Bool := decide (1 ≤ i) && (match p[(i - 1).toNat]? with | some c => decide (c.tag = t) | none => false)
/-- The text of a name constant; empty where there is none. -/
def textP (p : List Cn) (i : Int) : ByteArray := match p[(i - 1).toNat]? with | some c => if 1 ≤ i ∧ c.tag = 1 then c.text else ⟨#[]⟩ | none => ⟨#[]⟩
theorem tagged_low {p : List Cn} {i t : Int} (h : i < 1) : tagged p i t = false := by unfold tagged; rw [decide_eq_false (by omega)]; rfl
theorem tagged_high {p : List Cn} {i t : Int} (h : (p.length : Int) < i) : tagged p i t = false := by
 unfold tagged
 rw [List.getElem?_eq_none (by omega)]
 simp
theorem tagged_at {p : List Cn} {k : Nat} {c : Cn} {t : Int} (h : p[k]? = some c) : tagged p ((k : Int) + 1) t = decide (c.tag = t) := by
 unfold tagged
 rw [show ((k : Int) + 1 - 1).toNat = k by omega, h, decide_eq_true (by omega)]
 rfl
theorem textP_at {p : List Cn} {k : Nat} {c : Cn} (h : p[k]? = some c) (ht : c.tag = 1) : textP p ((k : Int) + 1) = c.text := by
 unfold textP
 rw [show ((k : Int) + 1 - 1).toNat = k by omega, h]
 exact if_pos ⟨by omega, ht⟩
theorem link_cases (p : List Cn) (i : Int) : i < 1 ∨ (p.length : Int) < i ∨ ∃ (k : Nat) (c : Cn), i = (k : Int) + 1 ∧ p[k]? = some c ∧ k < p.length := by
 by_cases h1 : i < 1
 ·exact .inl h1
 by_cases h2 : (p.length : Int) < i
 ·exact .inr (.inl h2)
 have hk : (i - 1).toNat < p.length := by omega
 exact .inr (.inr ⟨(i - 1).toNat, _, by omega, List.getElem?_eq_getElem hk, hk⟩)
theorem tagged_some {p : List Cn} {i t : Int} (h : tagged p i t = true) : ∃ (k : Nat) (c : Cn), i = (k : Int) + 1 ∧ p[k]? = some c ∧ k < p.length ∧ c.tag = t := by
 rcases link_cases p i with h1 | h1 | ⟨k, c, rfl, hc, hk⟩
 ·rw [tagged_low h1] at h; cases h
 ·rw [tagged_high h1] at h; cases h
 ·rw [tagged_at hc] at h
  exact ⟨k, c, rfl, hc, hk, of_decide_eq_true h⟩
theorem textP_none {p : List Cn} {i : Int} (h : tagged p i 1 = false) : textP p i = ⟨#[]⟩ := by
 rcases link_cases p i with h1 | h1 | ⟨k, c, rfl, hc, hk⟩
 ·unfold textP
  split
  ·exact if_neg (by omega)
  ·rfl
 ·unfold textP
  rw [List.getElem?_eq_none (by omega)]
 ·rw [tagged_at hc] at h
  unfold textP
  rw [show ((k : Int) + 1 - 1).toNat = k by omega, hc]
  exact if_neg (by have := of_decide_eq_false h; omega)
set_option maxRecDepth 1000000 in
set_option maxHeartbeats 800000 in
theorem has_any {B : Nat} (f : Fl) (v : Value) (w : World) (hf : FileAt B w v f) (hB : B ≤ w.heap.size) (i t : Int) :
  Calls Tryz.prog 167 #[v, .int .i64 i, .int .i64 t] w fun e w' => e = .returned (.bool (tagged f.pool i t)) ∧ Below w.heap.size w w' := by
 obtain ⟨Ap, cp, Ai, ci, Af, cf, Am, cm, rfl, hi⟩ := hf
 have hbe : ∀ o, Below w.heap.size w (w.alloc o) := fun o => (Below.refl _ _).alloc (Nat.le_refl _) o
 have hp := hi.pool
 clear hi
 generalize f.ifs.length = ni
 generalize f.fds.length = nf
 generalize f.mts.length = nm
 obtain ⟨_, _, _, _, hmax, _⟩ := id hp
 unfold maxLen at hmax
 have HP := Lib.hid hp
 clear hp
 rcases link_cases f.pool i with h1 | h1 | ⟨k, c, rfl, hc, hk⟩
 ·rw [tagged_low h1]
  generalize f.pool.length = np at *
  go_enter Tryz.func167, Tryz.ntmps167
  go_wp2
  go_ret
  exact ⟨rfl, hbe _⟩
 ·rw [tagged_high h1]
  generalize f.pool.length = np at *
  have h2 : 1 ≤ i := by omega
  go_enter Tryz.func167, Tryz.ntmps167
  go_wp2
  go_ret
  exact ⟨rfl, hbe _⟩
 ·rw [tagged_at hc]
  obtain ⟨b, o, rfl, hb, h0, -⟩ := HP.out.at_ hc
  have hne : b ≠ w.heap.size := by omega
  have hlt : b < w.heap.size := by omega
  have hc0 : (w.alloc (.cells #[.slice (some ⟨b, o, none⟩) f.pool.length cp, .int .i64 f.fl, .int .i64 f.this, .int .i64 f.super, .slice Ai ni ci, .slice Af nf cf, .slice Am nm cm] 94)).cell? ⟨b, o + k * 6, none⟩ = some (.int .i64 c.tag) := by rw [World.cell?_alloc_lt _ _ _ hlt]; exact h0
  clear HP hc h0
  generalize f.pool.length = np at *
  go_enter Tryz.func167, Tryz.ntmps167
  go_wp2
  go_ret
  exact ⟨rfl, hbe _⟩
set_option maxRecDepth 1000000 in
set_option maxHeartbeats 800000 in
theorem refTagged_any {B : Nat} (f : Fl) (v : Value) (w : World) (hf : FileAt B w v f) (hB : B ≤ w.heap.size) (i t : Int) :
  Calls Tryz.prog 117 #[v, .int .i64 i, .int .i64 t] w fun e w' => e = .returned (.bool (tagged f.pool i t)) ∧ Below w.heap.size w w' := by
 obtain ⟨Ap, cp, Ai, ci, Af, cf, Am, cm, rfl, hi⟩ := hf
 have hbe : ∀ o, Below w.heap.size w (w.alloc o) := fun o => (Below.refl _ _).alloc (Nat.le_refl _) o
 have hp := hi.pool
 clear hi
 generalize f.ifs.length = ni
 generalize f.fds.length = nf
 generalize f.mts.length = nm
 obtain ⟨_, _, _, _, hmax, _⟩ := id hp
 unfold maxLen at hmax
 have HP := Lib.hid hp
 clear hp
 rcases link_cases f.pool i with h1 | h1 | ⟨k, c, rfl, hc, hk⟩
 ·rw [tagged_low h1]
  generalize f.pool.length = np at *
  go_enter Tryz.func117, Tryz.ntmps117
  go_wp2
  go_ret
  exact ⟨rfl, hbe _⟩
 ·rw [tagged_high h1]
  generalize f.pool.length = np at *
  have h2 : 1 ≤ i := by omega
  go_enter Tryz.func117, Tryz.ntmps117
  go_wp2
  go_ret
  exact ⟨rfl, hbe _⟩
 ·rw [tagged_at hc]
  obtain ⟨b, o, rfl, hb, h0, -⟩ := HP.out.at_ hc
  have hne : b ≠ w.heap.size := by omega
  have hlt : b < w.heap.size := by omega
  have hc0 : (w.alloc (.cells #[.slice (some ⟨b, o, none⟩) f.pool.length cp, .int .i64 f.fl, .int .i64 f.this, .int .i64 f.super, .slice Ai ni ci, .slice Af nf cf, .slice Am nm cm] 94)).cell? ⟨b, o + k * 6, none⟩ = some (.int .i64 c.tag) := by rw [World.cell?_alloc_lt _ _ _ hlt]; exact h0
  clear HP hc h0
  generalize f.pool.length = np at *
  go_enter Tryz.func117, Tryz.ntmps117
  go_wp2
  go_ret
  exact ⟨rfl, hbe _⟩
theorem has_at {B : Nat} (b : Bool) (f : Fl) (v : Value) (w : World) (hf : FileAt B w v f) (hB : B ≤ w.heap.size) (i t : Int) (h : tagged f.pool i t = b) :
  Calls Tryz.prog 167 #[v, .int .i64 i, .int .i64 t] w fun e w' => e = .returned (.bool b) ∧ Below w.heap.size w w' := by
 have := has_any f v w hf hB i t
 rwa [h] at this
theorem refTagged_at {B : Nat} (b : Bool) (f : Fl) (v : Value) (w : World) (hf : FileAt B w v f) (hB : B ≤ w.heap.size) (i t : Int) (h : tagged f.pool i t = b) :
  Calls Tryz.prog 117 #[v, .int .i64 i, .int .i64 t] w fun e w' => e = .returned (.bool b) ∧ Below w.heap.size w w' := by
 have := refTagged_any f v w hf hB i t
 rwa [h] at this
theorem alloc_cells (w : World) (cs : Array Value) (t : TypeId) (j : Nat) : (w.alloc (.cells cs t)).cell? ⟨w.heap.size, j, none⟩ = cs[j]? := World.cell?_alloc_mark w cs t (0, 0) j
theorem Below.link {a b c : World} (h : Below a.heap.size a b) (k : Below b.heap.size b c) : Below a.heap.size a c := h.trans (k.mono h.size)
set_option maxRecDepth 1000000 in
set_option maxHeartbeats 800000 in
theorem reftext_any {B : Nat} (f : Fl) (v : Value) (w : World) (hf : FileAt B w v f) (hB : B ≤ w.heap.size) (i : Int) (h : tagged f.pool i 1 = true) :
  Calls Tryz.prog 132 #[v, .int .i64 i] w fun e w' => e = .returned (.string (textP f.pool i)) ∧ Below w.heap.size w w' := by
 obtain ⟨k, c, rfl, hc, hk, ht⟩ := tagged_some h
 rw [textP_at hc ht]
 obtain ⟨Ap, cp, Ai, ci, Af, cf, Am, cm, rfl, hi⟩ := hf
 have hbe : ∀ o, Below w.heap.size w (w.alloc o) := fun o => (Below.refl _ _).alloc (Nat.le_refl _) o
 have hp := hi.pool
 clear hi h
 generalize f.ifs.length = ni
 generalize f.fds.length = nf
 generalize f.mts.length = nm
 obtain ⟨_, _, _, _, hmax, _⟩ := id hp
 unfold maxLen at hmax
 have HP := Lib.hid hp
 clear hp
 obtain ⟨b, o, rfl, hb, _, h0, -⟩ := HP.out.at_ hc
 have hlt : b < w.heap.size := by omega
 have hc0 : (w.alloc (.cells #[.slice (some ⟨b, o, none⟩) f.pool.length cp, .int .i64 f.fl, .int .i64 f.this, .int .i64 f.super, .slice Ai ni ci, .slice Af nf cf, .slice Am nm cm] 94)).cell? ⟨b, o + k * 6 + 1, none⟩ = some (.string c.text) := by rw [World.cell?_alloc_lt _ _ _ hlt]; exact h0
 clear HP hc h0 ht
 generalize f.pool.length = np at *
 go_enter Tryz.func132, Tryz.ntmps132
 go_wp2
 go_ret
 exact ⟨rfl, hbe _⟩
set_option maxRecDepth 1000000 in
set_option maxHeartbeats 800000 in
theorem Name_file {B : Nat} (f : Fl) (v : Value) (w : World) (hf : FileAt B w v f) (hB : B ≤ w.heap.size) (i : Int) :
  Calls Tryz.prog 168 #[v, .int .i64 i] w fun e w' => e = .returned (.tuple #[.string (textP f.pool i), .bool (tagged f.pool i 1)]) ∧ Below w.heap.size w w' := by
 obtain ⟨Ap, cp, Ai, ci, Af, cf, Am, cm, rfl, hi⟩ := id hf
 have HBE := Lib.hid ((Below.refl w.heap.size w).alloc (Nat.le_refl _) (.cells #[.slice Ap f.pool.length cp, .int .i64 f.fl, .int .i64 f.this, .int .i64 f.super, .slice Ai f.ifs.length ci, .slice Af f.fds.length cf, .slice Am f.mts.length cm] 94))
 have hp := hi.pool
 clear hi
 obtain ⟨_, _, _, _, hmax, _⟩ := id hp
 unfold maxLen at hmax
 have HP := Lib.hid hp
 clear hp
 cases h : tagged f.pool i 1 with
 | false =>
  rw [textP_none h]
  have HF := Lib.hid (fun W hW hWB => has_at (B := B) false f _ W (hf.keep hW) hWB i 1 h)
  clear hf h HP
  generalize f.ifs.length = ni at *
  generalize f.fds.length = nf at *
  generalize f.mts.length = nm at *
  generalize f.pool.length = np at *
  go_enter Tryz.func168, Tryz.ntmps168
  go_wp2_with fail
  refine (HF.out _ (fun p hp => World.cell?_alloc_lt _ _ _ (by omega)) (by simp; omega)).mono ?_
  rintro e w1 ⟨rfl, hb⟩
  have HB := Lib.hid (Below.link HBE.out hb)
  clear hb
  go_wp2
  go_ret2
  exact ⟨rfl, HB.out⟩
 | true =>
  have HF := Lib.hid (fun W hW hWB => has_at (B := B) true f _ W (hf.keep hW) hWB i 1 h)
  obtain ⟨k, c, rfl, hc, hk, ht⟩ := tagged_some h
  rw [textP_at hc ht]
  obtain ⟨b, o, rfl, hb, _, h0, -⟩ := HP.out.at_ hc
  have hlt : b < w.heap.size := by omega
  have H0 := Lib.hid h0
  clear hf h HP h0 hc ht
  generalize f.ifs.length = ni at *
  generalize f.fds.length = nf at *
  generalize f.mts.length = nm at *
  generalize f.pool.length = np at *
  go_enter Tryz.func168, Tryz.ntmps168
  go_wp2_with fail
  refine (HF.out _ (fun p hp => World.cell?_alloc_lt _ _ _ (by omega)) (by simp; omega)).mono ?_
  rintro e w1 ⟨rfl, hb1⟩
  have HB := Lib.hid (Below.link HBE.out hb1)
  obtain ⟨hc, hf⟩ := bcell hb1
  have hsz := hb1.size
  have hz : w.heap.size < w1.heap.size := by simp at hsz; omega
  have c0 : w1.cell? ⟨b, o + k * 6 + 1, none⟩ = some (.string c.text) := by rw [hc _ _ (by simp; omega), World.cell?_alloc_lt _ _ _ hlt]; exact H0.out
  have p0 : w1.cell? ⟨w.heap.size, 0, none⟩ = some (.slice (some ⟨b, o, none⟩) np cp) := by rw [hc _ _ (by simp), alloc_cells]; rfl
  clear hb1 hc hf hsz
  go_wp2
  go_ret2
  exact ⟨rfl, HB.out⟩
theorem filecells {w w1 : World} {cs : Array Value} {t : TypeId} (hb : Below (w.alloc (.cells cs t)).heap.size (w.alloc (.cells cs t)) w1) (j : Nat) : w1.cell? ⟨w.heap.size, j, none⟩ = cs[j]? := by
 rw [hb.cell (p := ⟨w.heap.size, j, none⟩) (by simp), alloc_cells]
theorem filefree {w w1 : World} {cs : Array Value} {t : TypeId} (hb : Below (w.alloc (.cells cs t)).heap.size (w.alloc (.cells cs t)) w1) : w.heap.size < w1.heap.size := by
 have := hb.size
 simp at this
 omega
theorem FileAt.drew {B : Nat} {w : World} {v : Value} {f : Fl} (h : FileAt B w v f) : FileAt B w.drew v f := h.keep fun _ _ => rfl
theorem FileAt.link {B : Nat} {w w1 : World} {v : Value} {f : Fl} {o : Obj} (h : FileAt B w v f) (hB : B ≤ w.heap.size) (hb : Below (w.alloc o).heap.size (w.alloc o) w1) : FileAt B w1 v f := (h.alloc hB o).below hb (by simp; omega)
set_option maxRecDepth 1000000 in
set_option maxHeartbeats 800000 in
theorem textOf_any {B : Nat} (f : Fl) (v : Value) (w : World) (hf : FileAt B w v f) (hB : B ≤ w.heap.size) (i : Int) :
  Calls Tryz.prog 180 #[v, .int .i64 i] w fun e w' => e = .returned (.string (textP f.pool i)) ∧ Below w.heap.size w w' := by
 obtain ⟨Ap, cp, Ai, ci, Af, cf, Am, cm, rfl, hi⟩ := id hf
 have HBE := Lib.hid ((Below.refl w.heap.size w).alloc (Nat.le_refl _) (.cells #[.slice Ap f.pool.length cp, .int .i64 f.fl, .int .i64 f.this, .int .i64 f.super, .slice Ai f.ifs.length ci, .slice Af f.fds.length cf, .slice Am f.mts.length cm] 94))
 have hp := hi.pool
 clear hi
 obtain ⟨_, _, _, _, hmax, _⟩ := id hp
 unfold maxLen at hmax
 have HP := Lib.hid hp
 clear hp
 have HF := Lib.hid (fun W hW hWB => Name_file (B := B) f _ W (hf.keep hW) hWB i)
 clear hf
 go_enter Tryz.func180, Tryz.ntmps180
 go_wp2_with fail
 refine (HF.out _ (fun p hp => World.cell?_alloc_lt _ _ _ (by omega)) (by simp; omega)).mono ?_
 rintro e w1 ⟨rfl, hb⟩
 have HB := Lib.hid (Below.link HBE.out hb)
 clear hb
 go_wp2
 go_ret
 exact ⟨rfl, HB.out⟩
set_option maxRecDepth 1000000 in
set_option maxHeartbeats 800000 in
theorem refName_file {B : Nat} (f : Fl) (v : Value) (w : World) (hf : FileAt B w v f) (hB : B ≤ w.heap.size) (i : Int) :
  Calls Tryz.prog 118 #[v, .int .i64 i] w fun e w' => e = .returned (.tuple #[.string (textP f.pool i), .bool (tagged f.pool i 1)]) ∧ Below w.heap.size w w' := by
 obtain ⟨Ap, cp, Ai, ci, Af, cf, Am, cm, rfl, hi⟩ := id hf
 have HBE := Lib.hid ((Below.refl w.heap.size w).alloc (Nat.le_refl _) (.cells #[.slice Ap f.pool.length cp, .int .i64 f.fl, .int .i64 f.this, .int .i64 f.super, .slice Ai f.ifs.length ci, .slice Af f.fds.length cf, .slice Am f.mts.length cm] 94))
 have hp := hi.pool
 clear hi
 obtain ⟨_, _, _, _, hmax, _⟩ := id hp
 unfold maxLen at hmax
 have HP := Lib.hid hp
 clear hp
 cases h : tagged f.pool i 1 with
 | false =>
  rw [textP_none h]
  have HF := Lib.hid (fun W hW hWB => refTagged_at (B := B) false f _ W (hf.keep hW) hWB i 1 h)
  clear hf h HP
  go_enter Tryz.func118, Tryz.ntmps118
  go_wp2_with fail
  refine (HF.out _ (fun p hp => World.cell?_alloc_lt _ _ _ (by omega)) (by simp; omega)).mono ?_
  rintro e w1 ⟨rfl, hb⟩
  have HB := Lib.hid (Below.link HBE.out hb)
  clear hb
  go_wp2
  go_ret2
  exact ⟨rfl, HB.out⟩
 | true =>
  have HF := Lib.hid (fun W hW hWB => refTagged_at (B := B) true f _ W (hf.keep hW) hWB i 1 h)
  have HT := Lib.hid (fun V W hW hWB => reftext_any (B := B) f V W hW hWB i h)
  have HFL := Lib.hid hf
  clear hf h HP
  go_enter Tryz.func118, Tryz.ntmps118
  go_wp2_with fail
  refine (HF.out _ (fun p hp => World.cell?_alloc_lt _ _ _ (by omega)) (by simp; omega)).mono ?_
  rintro e w1 ⟨rfl, hb⟩
  have HB := Lib.hid (Below.link HBE.out hb)
  have FL1 := Lib.hid (HFL.out.link hB hb)
  have c0 := filecells hb 0
  have c1 := filecells hb 1
  have c2 := filecells hb 2
  have c3 := filecells hb 3
  have c4 := filecells hb 4
  have c5 := filecells hb 5
  have c6 := filecells hb 6
  have hz := filefree hb
  simp at c0 c1 c2 c3 c4 c5 c6
  clear hb
  go_wp2_with fail
  refine (HT.out _ _ FL1.out (by omega)).mono ?_
  rintro e w2 ⟨rfl, hb⟩
  have HB2 := Lib.hid (Below.link HB.out hb)
  clear hb
  go_wp2
  go_ret2
  exact ⟨rfl, HB2.out⟩
theorem keepc {W w' : World} {B q i : Nat} {v : Value} (hb : Below W.heap.size W w') (hq : q < B) (hB : B ≤ W.heap.size) (h : W.cell? ⟨q, i, none⟩ = some v) : w'.cell? ⟨q, i, none⟩ = some v :=
 (hb.cell (p := ⟨q, i, none⟩) (Nat.lt_of_lt_of_le hq hB)).trans h
/-- The name's link of a class constant. -/
def clsL (p : List Cn) (i : Int) : Int := match p[(i - 1).toNat]? with | some c => c.a | none => 0
def classP (p : List Cn) (i : Int) : ByteArray := if tagged p i 4 then textP p (clsL p i) else ⟨#[]⟩
def classB (p : List Cn) (i : Int) : Bool := tagged p i 4 && tagged p (clsL p i) 1
theorem clsL_at {p : List Cn} {k : Nat} {c : Cn} (h : p[k]? = some c) : clsL p ((k : Int) + 1) = c.a := by
 unfold clsL
 rw [show ((k : Int) + 1 - 1).toNat = k by omega, h]
set_option maxRecDepth 1000000 in
set_option maxHeartbeats 800000 in
theorem ClassName_any {B : Nat} (f : Fl) (v : Value) (w : World) (hf : FileAt B w v f) (hB : B ≤ w.heap.size) (i : Int) :
    Calls Tryz.prog 136 #[v, .int .i64 i] w fun e w' => e = .returned (.tuple #[.string (classP f.pool i), .bool (classB f.pool i)]) ∧ Below w.heap.size w w' := by
  obtain ⟨Ap, cp, Ai, ci, Af, cf, Am, cm, rfl, hi⟩ := id hf
  have HBE := Lib.hid ((Below.refl w.heap.size w).alloc (Nat.le_refl _) (.cells #[.slice Ap f.pool.length cp, .int .i64 f.fl, .int .i64 f.this, .int .i64 f.super, .slice Ai f.ifs.length ci, .slice Af f.fds.length cf, .slice Am f.mts.length cm] 94))
  have hp := hi.pool
  clear hi
  obtain ⟨_, _, _, _, hmax, _⟩ := id hp
  unfold maxLen at hmax
  have HP := Lib.hid hp
  clear hp
  cases h : tagged f.pool i 4 with
  | false =>
    have e1 : classP f.pool i = ⟨#[]⟩ := by unfold classP; rw [h]; rfl
    have e2 : classB f.pool i = false := by unfold classB; rw [h]; rfl
    rw [e1, e2]
    have HF := Lib.hid (fun W hW hWB => has_at (B := B) false f _ W (hf.keep hW) hWB i 4 h)
    clear hf h HP e1 e2
    go_enter Tryz.func136, Tryz.ntmps136
    go_wp2_with fail
    refine (HF.out _ (fun p hp => World.cell?_alloc_lt _ _ _ (by omega)) (by simp; omega)).mono ?_
    rintro e w1 ⟨rfl, hb⟩
    have HB := Lib.hid (Below.link HBE.out hb)
    clear hb
    go_wp2
    go_ret2
    exact ⟨rfl, HB.out⟩
  | true =>
    have e1 : classP f.pool i = textP f.pool (clsL f.pool i) := by unfold classP; rw [h]; rfl
    have e2 : classB f.pool i = tagged f.pool (clsL f.pool i) 1 := by unfold classB; rw [h]; rfl
    rw [e1, e2]
    have HF := Lib.hid (fun W hW hWB => has_at (B := B) true f _ W (hf.keep hW) hWB i 4 h)
    obtain ⟨k, c, rfl, hc, hk, ht⟩ := tagged_some h
    rw [clsL_at hc]
    have HT := Lib.hid (fun V W hW hWB => Name_file (B := B) f V W hW hWB c.a)
    obtain ⟨b, o, rfl, hb, _, _, _, h0, -⟩ := HP.out.at_ hc
    have hlt : b < w.heap.size := by omega
    have H0 := Lib.hid h0
    have HFL := Lib.hid hf
    clear hf h HP h0 hc ht e1 e2
    go_enter Tryz.func136, Tryz.ntmps136
    go_wp2_with fail
    refine (HF.out _ (fun p hp => World.cell?_alloc_lt _ _ _ (by omega)) (by simp; omega)).mono ?_
    rintro e w1 ⟨rfl, hb1⟩
    have BE := Below.link HBE.out hb1
    have FL := (HFL.out.link hB hb1).drew
    have c0 := filecells hb1 0
    have c1 := filecells hb1 1
    have c2 := filecells hb1 2
    have c3 := filecells hb1 3
    have c4 := filecells hb1 4
    have c5 := filecells hb1 5
    have c6 := filecells hb1 6
    have hz := filefree hb1
    have ck : w1.cell? ⟨b, o + k * 6 + 3, none⟩ = some (.int .i64 c.a) := by rw [hb1.cell (p := ⟨b, o + k * 6 + 3, none⟩) (by simp; omega), World.cell?_alloc_lt _ _ _ hlt]; exact H0.out
    simp at c0 c1 c2 c3 c4 c5 c6
    clear hb1
    go_wp2
    have hwk : IntKind.i64.wrap (k : Int) = k := IntWalk.i64_in _ (by omega)
    go_region_held3 (fun w' => w'.cell? ⟨w.heap.size, 0, none⟩ = some (.slice (some ⟨b, o, none⟩) f.pool.length cp) ∧ w'.cell? ⟨w.heap.size, 1, none⟩ = some (.int .i64 f.fl) ∧ w'.cell? ⟨w.heap.size, 2, none⟩ = some (.int .i64 f.this) ∧ w'.cell? ⟨w.heap.size, 3, none⟩ = some (.int .i64 f.super) ∧ w'.cell? ⟨w.heap.size, 4, none⟩ = some (.slice Ai f.ifs.length ci) ∧ w'.cell? ⟨w.heap.size, 5, none⟩ = some (.slice Af f.fds.length cf) ∧ w'.cell? ⟨w.heap.size, 6, none⟩ = some (.slice Am f.mts.length cm) ∧ w'.cell? ⟨b, o + k * 6 + 3, none⟩ = some (.int .i64 c.a) ∧ FileAt B w' (.agg #[.slice (some ⟨b, o, none⟩) f.pool.length cp, .int .i64 f.fl, .int .i64 f.this, .int .i64 f.super, .slice Ai f.ifs.length ci, .slice Af f.fds.length cf, .slice Am f.mts.length cm]) f ∧ w.heap.size < w'.heap.size ∧ Below w.heap.size w w')
      (first
        | exact ⟨c0, c1, c2, c3, c4, c5, c6, ck, FL, hz, BE.drew⟩
        | (go_split_ands
           refine ⟨?_, ?_, ?_, ?_, ?_, ?_, ?_, ?_, ?_, ?_, ?_⟩
           all_goals first
             | assumption
             | exact keepc hb (B := w.heap.size + 1) (by omega) (by omega) (by assumption)
             | exact FileAt.below (by assumption) hb (by omega)
             | exact Nat.lt_of_lt_of_le (by assumption) hb.size
             | exact Below.link (by assumption) hb))
      ((go_at_call 168; refine (HT.out _ _ (by first | assumption | (go_split_ands; assumption)) (by go_split_ands; omega)).mono ?_; rintro e wi ⟨rfl, hb⟩))
    all_goals
      go_split_ands
      have HB2 := Lib.hid (show Below w.heap.size w _ by assumption)
      go_wp2
      go_ret2
      exact ⟨rfl, HB2.out⟩
set_option maxRecDepth 1000000 in
set_option maxHeartbeats 800000 in
theorem refClassName_any {B : Nat} (f : Fl) (v : Value) (w : World) (hf : FileAt B w v f) (hB : B ≤ w.heap.size) (i : Int) :
    Calls Tryz.prog 97 #[v, .int .i64 i] w fun e w' => e = .returned (.tuple #[.string (classP f.pool i), .bool (classB f.pool i)]) ∧ Below w.heap.size w w' := by
  obtain ⟨Ap, cp, Ai, ci, Af, cf, Am, cm, rfl, hi⟩ := id hf
  have HBE := Lib.hid ((Below.refl w.heap.size w).alloc (Nat.le_refl _) (.cells #[.slice Ap f.pool.length cp, .int .i64 f.fl, .int .i64 f.this, .int .i64 f.super, .slice Ai f.ifs.length ci, .slice Af f.fds.length cf, .slice Am f.mts.length cm] 94))
  have hp := hi.pool
  clear hi
  obtain ⟨_, _, _, _, hmax, _⟩ := id hp
  unfold maxLen at hmax
  have HP := Lib.hid hp
  clear hp
  cases h : tagged f.pool i 4 with
  | false =>
    have e1 : classP f.pool i = ⟨#[]⟩ := by unfold classP; rw [h]; rfl
    have e2 : classB f.pool i = false := by unfold classB; rw [h]; rfl
    rw [e1, e2]
    have HF := Lib.hid (fun W hW hWB => refTagged_at (B := B) false f _ W (hf.keep hW) hWB i 4 h)
    clear hf h HP e1 e2
    go_enter Tryz.func97, Tryz.ntmps97
    go_wp2_with fail
    refine (HF.out _ (fun p hp => World.cell?_alloc_lt _ _ _ (by omega)) (by simp; omega)).mono ?_
    rintro e w1 ⟨rfl, hb⟩
    have HB := Lib.hid (Below.link HBE.out hb)
    clear hb
    go_wp2
    go_ret2
    exact ⟨rfl, HB.out⟩
  | true =>
    have e1 : classP f.pool i = textP f.pool (clsL f.pool i) := by unfold classP; rw [h]; rfl
    have e2 : classB f.pool i = tagged f.pool (clsL f.pool i) 1 := by unfold classB; rw [h]; rfl
    rw [e1, e2]
    have HF := Lib.hid (fun W hW hWB => refTagged_at (B := B) true f _ W (hf.keep hW) hWB i 4 h)
    obtain ⟨k, c, rfl, hc, hk, ht⟩ := tagged_some h
    rw [clsL_at hc]
    have HT := Lib.hid (fun V W hW hWB => refName_file (B := B) f V W hW hWB c.a)
    obtain ⟨b, o, rfl, hb, _, _, _, h0, -⟩ := HP.out.at_ hc
    have hlt : b < w.heap.size := by omega
    have H0 := Lib.hid h0
    have HFL := Lib.hid hf
    clear hf h HP h0 hc ht e1 e2
    go_enter Tryz.func97, Tryz.ntmps97
    go_wp2_with fail
    refine (HF.out _ (fun p hp => World.cell?_alloc_lt _ _ _ (by omega)) (by simp; omega)).mono ?_
    rintro e w1 ⟨rfl, hb1⟩
    have BE := Below.link HBE.out hb1
    have FL := (HFL.out.link hB hb1).drew
    have c0 := filecells hb1 0
    have c1 := filecells hb1 1
    have c2 := filecells hb1 2
    have c3 := filecells hb1 3
    have c4 := filecells hb1 4
    have c5 := filecells hb1 5
    have c6 := filecells hb1 6
    have hz := filefree hb1
    have ck : w1.cell? ⟨b, o + k * 6 + 3, none⟩ = some (.int .i64 c.a) := by rw [hb1.cell (p := ⟨b, o + k * 6 + 3, none⟩) (by simp; omega), World.cell?_alloc_lt _ _ _ hlt]; exact H0.out
    simp at c0 c1 c2 c3 c4 c5 c6
    clear hb1
    go_wp2
    have hwk : IntKind.i64.wrap (k : Int) = k := IntWalk.i64_in _ (by omega)
    go_region_held3 (fun w' => w'.cell? ⟨w.heap.size, 0, none⟩ = some (.slice (some ⟨b, o, none⟩) f.pool.length cp) ∧ w'.cell? ⟨w.heap.size, 1, none⟩ = some (.int .i64 f.fl) ∧ w'.cell? ⟨w.heap.size, 2, none⟩ = some (.int .i64 f.this) ∧ w'.cell? ⟨w.heap.size, 3, none⟩ = some (.int .i64 f.super) ∧ w'.cell? ⟨w.heap.size, 4, none⟩ = some (.slice Ai f.ifs.length ci) ∧ w'.cell? ⟨w.heap.size, 5, none⟩ = some (.slice Af f.fds.length cf) ∧ w'.cell? ⟨w.heap.size, 6, none⟩ = some (.slice Am f.mts.length cm) ∧ w'.cell? ⟨b, o + k * 6 + 3, none⟩ = some (.int .i64 c.a) ∧ FileAt B w' (.agg #[.slice (some ⟨b, o, none⟩) f.pool.length cp, .int .i64 f.fl, .int .i64 f.this, .int .i64 f.super, .slice Ai f.ifs.length ci, .slice Af f.fds.length cf, .slice Am f.mts.length cm]) f ∧ w.heap.size < w'.heap.size ∧ Below w.heap.size w w')
      (first
        | exact ⟨c0, c1, c2, c3, c4, c5, c6, ck, FL, hz, BE.drew⟩
        | (go_split_ands
           refine ⟨?_, ?_, ?_, ?_, ?_, ?_, ?_, ?_, ?_, ?_, ?_⟩
           all_goals first
             | assumption
             | exact keepc hb (B := w.heap.size + 1) (by omega) (by omega) (by assumption)
             | exact FileAt.below (by assumption) hb (by omega)
             | exact Nat.lt_of_lt_of_le (by assumption) hb.size
             | exact Below.link (by assumption) hb))
      ((go_at_call 118; refine (HT.out _ _ (by first | assumption | (go_split_ands; assumption)) (by go_split_ands; omega)).mono ?_; rintro e wi ⟨rfl, hb⟩))
    all_goals
      go_split_ands
      have HB2 := Lib.hid (show Below w.heap.size w _ by assumption)
      go_wp2
      go_ret2
      exact ⟨rfl, HB2.out⟩
def tw (l : List UInt8) : List UInt8 := l.takeWhile (· != 59)
theorem tw_le (l : List UInt8) : (tw l).length ≤ l.length := (List.takeWhile_prefix _).length_le
theorem tw_take (l : List UInt8) : l.take (tw l).length = tw l := by
 obtain ⟨t, ht⟩ := List.takeWhile_prefix (l := l) (· != (59 : UInt8))
 have : l.take (tw l).length = (l.takeWhile (· != 59) ++ t).take (l.takeWhile (· != 59)).length := by rw [ht]; rfl
 rw [this, List.take_left]
 rfl
def lenB (n : List UInt8) : Nat := if n = [] then 1 else n.length + 2
theorem L_extract (s : ByteArray) (a b : Nat) : L (s.extract a b) = ((L s).drop a).take (b - a) := by
 rw [L, Lib.extract_data]
/-- What is told of the front: the type, and how many bytes it has; 0: there is none. -/
def ftV : Option Ty → Value
 | none => .tuple #[.agg #[.int .i64 0, .string ⟨#[]⟩], .int .i64 0]
 | some p => .tuple #[.agg #[.int .i64 p.1, .string (mkB p.2)], .int .i64 (tlen p)]
theorem lenB_tlen (d : Nat) (n : List UInt8) : tlen (d, n) = d + lenB n := by
 unfold tlen lenB
 rw [descT_len]
theorem lead_le_size (s : ByteArray) : lead (L s) ≤ s.size := by rw [size_L]; exact lead_le _
theorem ftV_none : ftV none = .tuple #[.agg #[.int .i64 0, .string ⟨#[]⟩], .int .i64 0] := rfl
theorem ftV_some (p : Ty) : ftV (some p) = .tuple #[.agg #[.int .i64 p.1, .string (mkB p.2)], .int .i64 (tlen p)] := rfl
theorem beq_toNat {c : UInt8} {x : Nat} (hx : x < 256) (h : c ≠ UInt8.ofNat x) : ((c.toNat : Int) == (x : Int)) = false := by
 rw [beq_eq_false_iff_ne]
 intro e
 apply h
 have e' : c.toNat = x := by omega
 exact UInt8.toNat_inj.1 (by rw [e', UInt8.toNat_ofNat']; omega)
theorem heap_setCell_ne {w : World} {p : Addr} {u : Value} {k : Nat} {x : Option Obj} (hk : k ≠ p.block) (h : w.heap[k]? = x) : (w.setCell p u).heap[k]? = x := (Below.heap_setCell _ _ _ _ hk).trans h
theorem heap_alloc_lt {w : World} {o : Obj} {k : Nat} {x : Obj} (h : w.heap[k]? = some x) : (w.alloc o).heap[k]? = some x := (Below.heap_alloc _ _ _ (lt_of_block h)).trans h
/-- What 'Field' answers. -/
def fdV : Option Ty → Value
 | none => .tuple #[.agg #[.int .i64 0, .string ⟨#[]⟩], .int .i64 9]
 | some p => .tuple #[.agg #[.int .i64 p.1, .string (mkB p.2)], .int .i64 0]
theorem heap_new (w : World) (o : Obj) : (w.alloc o).heap[w.heap.size]? = some o := by
 show (w.heap.push o)[w.heap.size]? = _
 simp
theorem heap_new2 (w : World) (o1 o2 : Obj) : ((w.alloc o1).alloc o2).heap[w.heap.size + 1]? = some o2 := by
 have := heap_new (w.alloc o1) o2
 rwa [show (w.alloc o1).heap.size = w.heap.size + 1 by simp] at this
theorem cells_of {w : World} {b : Nat} {cs : Array Value} {t : TypeId} (h : w.heap[b]? = some (.cells cs t (0, 0))) (i : Nat) : w.cell? ⟨b, i, none⟩ = cs[i]? := by simp [World.cell?, h]
theorem free_of {w : World} {b : Nat} {cs : Array Value} {t : TypeId} (h : w.heap[b]? = some (.cells cs t (0, 0))) (i : Nat) : w.frozen? ⟨b, i, none⟩ = false := by simp [World.frozen?, h]
theorem Below.keep {B q : Nat} {w w' : World} {o : Obj} (h : Below B w w') (hq : q < B) (hx : w.heap[q]? = some o) : w'.heap[q]? = some o := (h.block q hq).trans hx
end Go.Proofs.YtmaknddlgppinaaGreatDoor
