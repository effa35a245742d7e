/-
  CUT and joined from the texts of this seat: Cx Lg Md
-/
import Derived.Test.YtmaknddlgppinaaGreatDoorT11
import Derived.Test.YtmaknddlgppinaaGreatDoorT13
import Derived.Test.YtmaknddlgppinaaGreatDoorT16
import Derived.IntWalk
set_option linter.unusedVariables false
set_option linter.unusedSimpArgs false
namespace Go.Proofs.YtmaknddlgppinaaGreatDoor
open Classical
/-- Are these the chains of all classes? -/
def chB (cs : List PC) (ch : List (List Nat)) : Bool := (List.range cs.length).all fun i => match ch[i]? with
 | none => false
 | some l => decide (l[0]? = some i) && (List.range l.length).all fun k => match l[k]? with
  | none => true
  | some x => decide (sup cs x = l[k + 1]?)
theorem chB_ch {cs : List PC} {ch : List (List Nat)} (h : chB cs ch = true) {i : Nat} (hi : i < cs.length) : ∃ l, ch[i]? = some l ∧ Ch cs i l := by
 unfold chB at h
 rw [List.all_eq_true] at h
 have h1 := h i (List.mem_range.2 hi)
 cases hl : ch[i]? with
 | none => simp only [hl] at h1; cases h1
 | some l =>
  simp only [hl] at h1
  rw [Bool.and_eq_true, decide_eq_true_eq, List.all_eq_true] at h1
  refine ⟨l, rfl, ch_of h1.1 fun k x hx => ?_⟩
  have h2 := h1.2 k (List.mem_range.2 (List.getElem?_eq_some_iff.1 hx).1)
  simp only [hx] at h2
  exact of_decide_eq_true h2
def mtC (ch : List (List Nat)) (i j : Nat) : Nat := match ch[i]?, ch[j]? with
 | some l, some m => (l.find? (fun x => m.contains x)).getD 0
 | _, _ => 0
theorem mtC_eq {cs : List PC} (G : Good cs) {ch : List (List Nat)} (h : chB cs ch = true) {i j : Nat} (hi : i < cs.length) (hj : j < cs.length) : mt cs i j = mtC ch i j := by
 obtain ⟨l, hl, cl⟩ := chB_ch h hi
 obtain ⟨m, hm, cm⟩ := chB_ch h hj
 unfold mtC
 rw [hl, hm]
 simp only
 have z1 := List.mem_of_getLast? (cl.last_zero G hi)
 have z2 := List.mem_of_getLast? (cm.last_zero G hj)
 cases hf : l.find? (fun x => m.contains x) with
 | none =>
  rw [List.find?_eq_none] at hf
  exact absurd (by simpa using z2) (hf 0 z1)
 | some x =>
  rw [List.find?_eq_some_iff_getElem] at hf
  obtain ⟨hx, k, hk, e, hb⟩ := hf
  refine mt_chain G cl cm (k := k) (x := x) (by rw [List.getElem?_eq_getElem hk, e]) (by simpa using hx) fun p hp y hy => ?_
  obtain ⟨hp', rfl⟩ := List.getElem?_eq_some_iff.1 hy
  have := hb p hp
  simpa using this
def lubC (ch : List (List Nat)) : Nat → Option Nat → Nat → Option Nat → Nd
 | 0, some i, 0, some j => (0, some (mtC ch i j))
 | 0, _, _, _ => (0, some 0)
 | _ + 1, _, 0, _ => (0, some 0)
 | n + 1, u, m + 1, v =>
  if n = m ∧ u = v then (n + 1, u)
  else if (n = 0 ∧ u = none) ∨ (m = 0 ∧ v = none) then (0, some 0)
  else ((lubC ch n u m v).1 + 1, (lubC ch n u m v).2)
theorem lubC_eq {cs : List PC} (G : Good cs) {ch : List (List Nat)} (h : chB cs ch = true) : ∀ (n : Nat) (u : Option Nat) (m : Nat) (v : Option Nat), Vn cs u → Vn cs v → lubD cs n u m v = lubC ch n u m v
 | 0, some i, 0, some j, hu, hv => by simp only [lubD, lubC]; rw [mtC_eq G h (hu i rfl) (hv j rfl)]
 | 0, none, 0, none, _, _ => rfl
 | 0, none, 0, some _, _, _ => rfl
 | 0, some _, 0, none, _, _ => rfl
 | 0, none, _ + 1, _, _, _ => rfl
 | 0, some _, _ + 1, _, _, _ => rfl
 | _ + 1, _, 0, _, _, _ => rfl
 | n + 1, u, m + 1, v, hu, hv => by
  have e := lubC_eq G h n u m v hu hv
  simp only [lubD, lubC]
  rw [e]
/-- The least type above two, so that it can be reckoned. -/
def lubTC (cs : List PC) (ch : List (List Nat)) (a b : TY) : TY := tyOf cs (lubC ch (nd cs a).1 (nd cs a).2 (nd cs b).1 (nd cs b).2)
theorem lubTC_eq {cs : List PC} (G : Good cs) {ch : List (List Nat)} (h : chB cs ch = true) (a b : TY) : lubT cs a b = lubTC cs ch a b := by
 unfold lubT lubTC
 rw [lubC_eq G h _ _ _ _ (vn_ix G) (vn_ix G)]
def own7 : List PC := [⟨[65], objB, [], false, false, 0⟩, ⟨[66], [65], [], false, false, 1⟩, ⟨[67], [65], [], false, false, 2⟩, ⟨[73], objB, [], true, true, 3⟩]
def cs7 : List PC := builtP ++ own7
def fs7 : List FC := own7.map fun c => (0, c)
def ch7 : List (List Nat) := [[0], [1, 0], [2, 0], [3, 0], [4, 0], [5, 4, 0], [6, 4, 0], [7, 4, 0], [8, 4, 0], [9, 4, 0], [10, 4, 0], [11, 4, 0], [12, 4, 0], [13, 4, 0], [14, 0], [15, 14, 0], [16, 14, 0], [17, 0]]
def rk7 : List Nat := [0, 1, 1, 1, 1, 2, 2, 2, 2, 2, 2, 2, 2, 2, 1, 2, 2, 1]
theorem open7 : openP builtP fs7 = .inl cs7 := by
 refine openP_of (rk := rk7) (by decide) (by decide +kernel) (fun c hc => ?_) (by decide +kernel)
 rw [← kindB_eq]
 revert c
 decide +kernel
theorem good7 : Good cs7 := (openP_good good_built (by decide) open7).1
/-- The knowns that the laws ask about, by their numbers. -/
def rf (s : List UInt8) : KN := ⟨3, (0, s), 0⟩
def nullB : List UInt8 := [78, 117, 108, 108]
def hasB (cs : List PC) (t : TY) : Bool := decide (0 ≤ t.1) && decide (t.1 ≤ 4) && (decide (t.2 = []) || (ix cs t.2).isSome)
theorem hasB_iff {cs : List PC} {t : TY} : hasB cs t = true ↔ hasT cs t := by
 unfold hasB hasT
 simp only [Bool.and_eq_true, Bool.or_eq_true, decide_eq_true_eq, and_assoc, Option.isSome_iff_ne_none, ne_eq]
def okKB (cs : List PC) (k : KN) : Bool :=
 ((decide (k.kind = 0) || decide (k.kind = 1) || decide (k.kind = 2) || decide (k.kind = 5)) && decide (k.ty = intT) && decide (k.n = 0)) || (decide (k.kind = 3) && hasB cs k.ty && !decide (k.ty = intT) && decide (k.n = 0)) || (decide (k.kind = 4) && decide (k.ty = intT) && decide (0 ≤ k.n))
theorem okKB_ok {cs : List PC} {V : TY → Prop} (hV : ∀ t, hasT cs t → V t) {k : KN} (h : okKB cs k = true) : OkK cs V k := by
 unfold okKB at h
 simp only [Bool.and_eq_true, Bool.or_eq_true, decide_eq_true_eq, Bool.not_eq_true', decide_eq_false_iff_not, hasB_iff] at h
 rcases h with (⟨⟨h1, h2⟩, h3⟩ | ⟨⟨⟨h1, h2⟩, h3⟩, h4⟩) | ⟨⟨h1, h2⟩, h3⟩
 ·exact ⟨.inl ⟨by rcases h1 with ((h | h) | h) | h <;> simp [h], h2, h3⟩, fun h => by rcases h1 with ((h | h) | h) | h <;> omega⟩
 ·exact ⟨.inr (.inl ⟨h1, hV _ h2, h3, h4⟩), fun _ => h2⟩
 ·exact ⟨.inr (.inr ⟨h1, h2, h3⟩), fun h => by omega⟩
/-- A join, so that it can be reckoned. -/
def joinC (cs : List PC) (ch : List (List Nat)) (a b : KN) : KN :=
 if a = b then a else if a.kind = 2 ∧ b.kind = 3 then b else if a.kind = 3 ∧ b.kind = 2 then a else if a.kind = 3 ∧ b.kind = 3 then ⟨3, lubTC cs ch a.ty b.ty, 0⟩ else topK
theorem ok_ref {cs : List PC} {V : TY → Prop} {k : KN} (h : OkK cs V k) (h3 : k.kind = 3) : hasT cs k.ty ∧ k.ty ≠ intT := by
 refine ⟨h.2 h3, ?_⟩
 rcases h.1 with ⟨h1, _⟩ | ⟨_, _, h1, _⟩ | ⟨h1, _⟩
 ·omega
 ·exact h1
 ·omega
theorem joinC_eq {cs : List PC} (G : Good cs) {ch : List (List Nat)} (h : chB cs ch = true) {V : TY → Prop} {a b : KN} (ha : OkK cs V a) (hb : OkK cs V b) : joinK cs V a b = joinC cs ch a b := by
 unfold joinK joinC
 rw [if_neg (by simp [ha.1, hb.1])]
 by_cases he : a = b
 ·rw [if_pos he, if_pos he]
 rw [if_neg he, if_neg he]
 by_cases h23 : a.kind = 2 ∧ b.kind = 3
 ·rw [if_pos h23, if_pos h23]
 rw [if_neg h23, if_neg h23]
 by_cases h32 : a.kind = 3 ∧ b.kind = 2
 ·rw [if_pos h32, if_pos h32]
 rw [if_neg h32, if_neg h32]
 by_cases h33 : a.kind = 3 ∧ b.kind = 3
 ·have p := ok_ref ha h33.1
  have q := ok_ref hb h33.2
  rw [if_pos ⟨h33.1, h33.2, p.1, q.1, p.2, q.2⟩, if_pos h33, lubTC_eq G h]
 ·rw [if_neg (fun h => h33 ⟨h.1, h.2.1⟩), if_neg h33]
/-- How high a known may yet rise. -/
def hgt (k : KN) : Nat := if k.kind = 0 then 0 else if k.kind = 2 then 6 else if k.kind = 3 then
  (match k.ty with
   | (0, s) => if s = objB then 1 else if s = [66] ∨ s = [67] ∨ s = nullB then 3 else 2
   | (1, s) => if s = objB ∨ s = [] then 2 else if s = [65] then 3 else 4
   | _ => 3)
 else 1
end Go.Proofs.YtmaknddlgppinaaGreatDoor
namespace Go.Proofs.YtmaknddlgppinaaGreatDoor
open Go.RowKit
theorem results84 : Tryz.f84.results = #[ResultVar.cell 2 64] := by kernel_rfl
set_option maxRecDepth 1000000 in
set_option maxHeartbeats 1600000 in
theorem ref84_any (s : ByteArray) (w : World) :
  Calls Tryz.prog 84 #[.string s] w fun e w' => e = .returned (.agg #[.int .i64 3, .int .i64 0, .string s, .int .i64 0]) ∧ Below w.heap.size w w' := by
 go_enter Tryz.func84, Tryz.ntmps84
 go_wp2
 refine bodyPost_ret (v := .agg #[.int .i64 3, .int .i64 0, .string s, .int .i64 0]) (by simp [results, results84, go_sem]) rfl ⟨rfl, ?_⟩
 exact (Below.refl w.heap.size w).alloc (Nat.le_refl _) _
/-- A known as its cells. -/
abbrev KQ := Int × Int × ByteArray × Int
def kcells : List KQ → List Value
 | [] => []
 | q :: l => .int .i64 q.1 :: .int .i64 q.2.1 :: .string q.2.2.1 :: .int .i64 q.2.2.2 :: kcells l
theorem kcells_at {l : List KQ} {i : Nat} {q : KQ} (h : l[i]? = some q) : (kcells l)[i * 4]? = some (.int .i64 q.1) ∧ (kcells l)[i * 4 + 1]? = some (.int .i64 q.2.1) ∧ (kcells l)[i * 4 + 2]? = some (.string q.2.2.1) ∧ (kcells l)[i * 4 + 3]? = some (.int .i64 q.2.2.2) := by
 induction l generalizing i with
 | nil => cases h
 | cons a l ih =>
  cases i with
  | zero => cases h; exact ⟨rfl, rfl, rfl, rfl⟩
  | succ i =>
   obtain ⟨a, b, c, d⟩ := ih (i := i) h
   have e : (i + 1) * 4 = i * 4 + 1 + 1 + 1 + 1 := by omega
   rw [e]
   exact ⟨a, b, c, d⟩
end Go.Proofs.YtmaknddlgppinaaGreatDoor
