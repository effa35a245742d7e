/-
  CUT and joined from the texts of this seat: Cx Lg Md
-/
import Derived.Test.YtmaknddlgppinaaGreatDoorZ11
import Derived.Test.YtmaknddlgppinaaGreatDoorZ14
import Derived.Test.YtmaknddlgppinaaGreatDoorZ17
import Derived.IntWalk
set_option linter.unusedVariables false
set_option linter.unusedSimpArgs false
namespace Go.Proofs.YtmaknddlgppinaaGreatDoor
open Classical
/-- Are these the chains of all classes? -/
def chB (cs : List PC) (ch : List (List Nat)) : Bool := (List.range cs.length).all fun i => match ch[i]? with
 | none => false
 | some l => decide (l[0]? = some i) && (List.range l.length).all fun k => match l[k]? with
  | none => true
  | some x => decide (sup cs x = l[k + 1]?)
theorem chB_ch {cs : List PC} {ch : List (List Nat)} (h : chB cs ch = true) {i : Nat} (hi : i < cs.length) : ∃ l, ch[i]? = some l ∧ Ch cs i l := by
 unfold chB at h
 rw [List.all_eq_true] at h
 have h1 := h i (List.mem_range.2 hi)
 cases hl : ch[i]? with
 | none => simp only [hl] at h1; cases h1
 | some l =>
  simp only [hl] at h1
  rw [Bool.and_eq_true, decide_eq_true_eq, List.all_eq_true] at h1
  refine ⟨l, rfl, ch_of h1.1 fun k x hx => ?_⟩
  have h2 := h1.2 k (List.mem_range.2 (List.getElem?_eq_some_iff.1 hx).1)
  simp only [hx] at h2
  exact of_decide_eq_true h2
def mtC (ch : List (List Nat)) (i j : Nat) : Nat := match ch[i]?, ch[j]? with
 | some l, some m => (l.find? (fun x => m.contains x)).getD 0
 | _, _ => 0
theorem mtC_eq {cs : List PC} (G : Good cs) {ch : List (List Nat)} (h : chB cs ch = true) {i j : Nat} (hi : i < cs.length) (hj : j < cs.length) : mt cs i j = mtC ch i j := by
 obtain ⟨l, hl, cl⟩ := chB_ch h hi
 obtain ⟨m, hm, cm⟩ := chB_ch h hj
 unfold mtC
 rw [hl, hm]
 simp only
 have z1 := List.mem_of_getLast? (cl.last_zero G hi)
 have z2 := List.mem_of_getLast? (cm.last_zero G hj)
 cases hf : l.find? (fun x => m.contains x) with
 | none =>
  rw [List.find?_eq_none] at hf
  exact absurd (by simpa using z2) (hf 0 z1)
 | some x =>
  rw [List.find?_eq_some_iff_getElem] at hf
  obtain ⟨hx, k, hk, e, hb⟩ := hf
  refine mt_chain G cl cm (k := k) (x := x) (by rw [List.getElem?_eq_getElem hk, e]) (by simpa using hx) fun p hp y hy => ?_
  obtain ⟨hp', rfl⟩ := List.getElem?_eq_some_iff.1 hy
  have := hb p hp
  simpa using this
def lubC (ch : List (List Nat)) : Nat → Option Nat → Nat → Option Nat → Nd
 | 0, some i, 0, some j => (0, some (mtC ch i j))
 | 0, _, _, _ => (0, some 0)
 | _ + 1, _, 0, _ => (0, some 0)
 | n + 1, u, m + 1, v =>
  if n = m ∧ u = v then (n + 1, u)
  else if (n = 0 ∧ u = none) ∨ (m = 0 ∧ v = none) then (0, some 0)
  else ((lubC ch n u m v).1 + 1, (lubC ch n u m v).2)
theorem lubC_eq {cs : List PC} (G : Good cs) {ch : List (List Nat)} (h : chB cs ch = true) : ∀ (n : Nat) (u : Option Nat) (m : Nat) (v : Option Nat), Vn cs u → Vn cs v → lubD cs n u m v = lubC ch n u m v
 | 0, some i, 0, some j, hu, hv => by simp only [lubD, lubC]; rw [mtC_eq G h (hu i rfl) (hv j rfl)]
 | 0, none, 0, none, _, _ => rfl
 | 0, none, 0, some _, _, _ => rfl
 | 0, some _, 0, none, _, _ => rfl
 | 0, none, _ + 1, _, _, _ => rfl
 | 0, some _, _ + 1, _, _, _ => rfl
 | _ + 1, _, 0, _, _, _ => rfl
 | n + 1, u, m + 1, v, hu, hv => by
  have e := lubC_eq G h n u m v hu hv
  simp only [lubD, lubC]
  rw [e]
/-- The least type above two, so that it can be reckoned. -/
def lubTC (cs : List PC) (ch : List (List Nat)) (a b : TY) : TY := tyOf cs (lubC ch (nd cs a).1 (nd cs a).2 (nd cs b).1 (nd cs b).2)
theorem lubTC_eq {cs : List PC} (G : Good cs) {ch : List (List Nat)} (h : chB cs ch = true) (a b : TY) : lubT cs a b = lubTC cs ch a b := by
 unfold lubT lubTC
 rw [lubC_eq G h _ _ _ _ (vn_ix G) (vn_ix G)]
def own7 : List PC := [⟨[65], objB, [], false, false, 0⟩, ⟨[66], [65], [], false, false, 1⟩, ⟨[67], [65], [], false, false, 2⟩, ⟨[73], objB, [], true, true, 3⟩]
def cs7 : List PC := builtP ++ own7
def fs7 : List FC := own7.map fun c => (0, c)
def ch7 : List (List Nat) := [[0], [1, 0], [2, 0], [3, 0], [4, 0], [5, 4, 0], [6, 4, 0], [7, 4, 0], [8, 4, 0], [9, 4, 0], [10, 4, 0], [11, 4, 0], [12, 4, 0], [13, 4, 0], [14, 0], [15, 14, 0], [16, 14, 0], [17, 0]]
def rk7 : List Nat := [0, 1, 1, 1, 1, 2, 2, 2, 2, 2, 2, 2, 2, 2, 1, 2, 2, 1]
theorem open7 : openP builtP fs7 = .inl cs7 := by
 refine openP_of (rk := rk7) (by decide) (by decide +kernel) (fun c hc => ?_) (by decide +kernel)
 rw [← kindB_eq]
 revert c
 decide +kernel
theorem good7 : Good cs7 := (openP_good good_built (by decide) open7).1
theorem chains7 : chB cs7 ch7 = true := by decide +kernel
/-- The knowns that the laws ask about, by their numbers. -/
def rf (s : List UInt8) : KN := ⟨3, (0, s), 0⟩
def nullB : List UInt8 := [78, 117, 108, 108]
def kn17 : List KN := [topK, ⟨1, intT, 0⟩, ⟨2, intT, 0⟩, ⟨5, intT, 0⟩, ⟨4, intT, 0⟩, ⟨4, intT, 7⟩, rf [65], rf [66], rf [67], rf [73], rf objB, rf strB, rf nullB, ⟨3, (1, [66]), 0⟩, ⟨3, (1, [67]), 0⟩, ⟨3, (1, []), 0⟩, ⟨3, (2, [65]), 0⟩]
/-- .. and what comes of them. -/
def kn19 : List KN := kn17 ++ [⟨3, (1, [65]), 0⟩, ⟨3, (1, objB), 0⟩]
def hasB (cs : List PC) (t : TY) : Bool := decide (0 ≤ t.1) && decide (t.1 ≤ 4) && (decide (t.2 = []) || (ix cs t.2).isSome)
theorem hasB_iff {cs : List PC} {t : TY} : hasB cs t = true ↔ hasT cs t := by
 unfold hasB hasT
 simp only [Bool.and_eq_true, Bool.or_eq_true, decide_eq_true_eq, and_assoc, Option.isSome_iff_ne_none, ne_eq]
def okKB (cs : List PC) (k : KN) : Bool :=
 ((decide (k.kind = 0) || decide (k.kind = 1) || decide (k.kind = 2) || decide (k.kind = 5)) && decide (k.ty = intT) && decide (k.n = 0)) || (decide (k.kind = 3) && hasB cs k.ty && !decide (k.ty = intT) && decide (k.n = 0)) || (decide (k.kind = 4) && decide (k.ty = intT) && decide (0 ≤ k.n))
theorem okKB_ok {cs : List PC} {V : TY → Prop} (hV : ∀ t, hasT cs t → V t) {k : KN} (h : okKB cs k = true) : OkK cs V k := by
 unfold okKB at h
 simp only [Bool.and_eq_true, Bool.or_eq_true, decide_eq_true_eq, Bool.not_eq_true', decide_eq_false_iff_not, hasB_iff] at h
 rcases h with (⟨⟨h1, h2⟩, h3⟩ | ⟨⟨⟨h1, h2⟩, h3⟩, h4⟩) | ⟨⟨h1, h2⟩, h3⟩
 ·exact ⟨.inl ⟨by rcases h1 with ((h | h) | h) | h <;> simp [h], h2, h3⟩, fun h => by rcases h1 with ((h | h) | h) | h <;> omega⟩
 ·exact ⟨.inr (.inl ⟨h1, hV _ h2, h3, h4⟩), fun _ => h2⟩
 ·exact ⟨.inr (.inr ⟨h1, h2, h3⟩), fun h => by omega⟩
/-- A join, so that it can be reckoned. -/
def joinC (cs : List PC) (ch : List (List Nat)) (a b : KN) : KN :=
 if a = b then a else if a.kind = 2 ∧ b.kind = 3 then b else if a.kind = 3 ∧ b.kind = 2 then a else if a.kind = 3 ∧ b.kind = 3 then ⟨3, lubTC cs ch a.ty b.ty, 0⟩ else topK
theorem ok_ref {cs : List PC} {V : TY → Prop} {k : KN} (h : OkK cs V k) (h3 : k.kind = 3) : hasT cs k.ty ∧ k.ty ≠ intT := by
 refine ⟨h.2 h3, ?_⟩
 rcases h.1 with ⟨h1, _⟩ | ⟨_, _, h1, _⟩ | ⟨h1, _⟩
 ·omega
 ·exact h1
 ·omega
theorem joinC_eq {cs : List PC} (G : Good cs) {ch : List (List Nat)} (h : chB cs ch = true) {V : TY → Prop} {a b : KN} (ha : OkK cs V a) (hb : OkK cs V b) : joinK cs V a b = joinC cs ch a b := by
 unfold joinK joinC
 rw [if_neg (by simp [ha.1, hb.1])]
 by_cases he : a = b
 ·rw [if_pos he, if_pos he]
 rw [if_neg he, if_neg he]
 by_cases h23 : a.kind = 2 ∧ b.kind = 3
 ·rw [if_pos h23, if_pos h23]
 rw [if_neg h23, if_neg h23]
 by_cases h32 : a.kind = 3 ∧ b.kind = 2
 ·rw [if_pos h32, if_pos h32]
 rw [if_neg h32, if_neg h32]
 by_cases h33 : a.kind = 3 ∧ b.kind = 3
 ·have p := ok_ref ha h33.1
  have q := ok_ref hb h33.2
  rw [if_pos ⟨h33.1, h33.2, p.1, q.1, p.2, q.2⟩, if_pos h33, lubTC_eq G h]
 ·rw [if_neg (fun h => h33 ⟨h.1, h.2.1⟩), if_neg h33]
/-- How high a known may yet rise. -/
def hgt (k : KN) : Nat := if k.kind = 0 then 0 else if k.kind = 2 then 6 else if k.kind = 3 then
  (match k.ty with
   | (0, s) => if s = objB then 1 else if s = [66] ∨ s = [67] ∨ s = nullB then 3 else 2
   | (1, s) => if s = objB ∨ s = [] then 2 else if s = [65] then 3 else 4
   | _ => 3)
 else 1
theorem all19 : ∀ k ∈ kn19, okKB cs7 k = true := by decide +kernel
theorem rise19 : ∀ a ∈ kn19, hgt a ≤ 6 ∧ ∀ b ∈ kn19, joinC cs7 ch7 a b ∈ kn19 ∧ (joinC cs7 ch7 a b = a ∨ hgt (joinC cs7 ch7 a b) < hgt a) := by decide +kernel
theorem join19 {V : TY → Prop} (hV : ∀ t, hasT cs7 t → V t) {a b : KN} (ha : a ∈ kn19) (hb : b ∈ kn19) : joinK cs7 V a b ∈ kn19 ∧ (joinK cs7 V a b = a ∨ hgt (joinK cs7 V a b) < hgt a) := by
 rw [joinC_eq good7 chains7 (okKB_ok hV (all19 a ha)) (okKB_ok hV (all19 b hb))]
 exact (rise19 a ha).2 b hb
end Go.Proofs.YtmaknddlgppinaaGreatDoor
namespace Go.Proofs.YtmaknddlgppinaaGreatDoor
open Go.RowKit
/-- Which of n things the number c speaks of. -/
def pick7 (c : Int) (n : Nat) : Nat := (if c < 0 then -(c + 1) else c).toNat % n
theorem pick7_lt (c : Int) {n : Nat} (h : 0 < n) : pick7 c n < n := Nat.mod_lt _ h
set_option maxRecDepth 1000000 in
set_option maxHeartbeats 1600000 in
theorem pick7_any (c : Int) (n : Nat) (w : World) (hc : -9223372036854775808 ≤ c ∧ c ≤ 9223372036854775807) (h0 : 0 < n) (hn : n ≤ 1048576) :
  Calls Tryz.prog 55 #[.int .i64 c, .int .i64 (n : Int)] w fun e w' => e = .returned (.int .i64 (pick7 c n : Int)) ∧ w' = w := by
 have hz : ((n : Int) == 0) = false := by rw [beq_eq_false_iff_ne]; omega
 have hz' : ¬ (n : Int) = 0 := by omega
 by_cases h : c < 0
 ·have e1 : pick7 c n = (-(c + 1)).toNat % n := by unfold pick7; rw [if_pos h]
  rw [e1]
  have k1 : IntKind.i64.wrap (c + 1) = c + 1 := IntWalk.i64_in _ (by omega)
  have k2 : IntKind.i64.wrap (-(c + 1)) = -(c + 1) := IntWalk.i64_in _ (by omega)
  obtain ⟨m, hm⟩ : ∃ m : Nat, -(c + 1) = m := ⟨(-(c + 1)).toNat, by omega⟩
  rw [hm] at k2 ⊢
  rw [Int.toNat_natCast]
  have hm3 : (m : Int) ≤ 9223372036854775807 := by omega
  have hlt : m % n < n := Nat.mod_lt _ h0
  have k3 : IntKind.i64.wrap ((m : Int).tmod n) = ((m % n : Nat) : Int) := by
   rw [Int.tmod_eq_emod_of_nonneg (by omega), ← Int.natCast_emod, IntWalk.i64_in _ (by omega)]
  go_enter Tryz.func55, Tryz.ntmps55
  go_wp2
  go_ret
  exact ⟨by show Ending.returned (.int .i64 ((m : Int) % n)) = _; rw [Int.natCast_emod], rfl⟩
 ·have e1 : pick7 c n = c.toNat % n := by unfold pick7; rw [if_neg h]
  rw [e1]
  obtain ⟨m, rfl⟩ : ∃ m : Nat, c = m := ⟨c.toNat, by omega⟩
  rw [Int.toNat_natCast]
  have hlt : m % n < n := Nat.mod_lt _ h0
  have k3 : IntKind.i64.wrap ((m : Int).tmod n) = ((m % n : Nat) : Int) := by
   rw [Int.tmod_eq_emod_of_nonneg (by omega), ← Int.natCast_emod, IntWalk.i64_in _ (by omega)]
  have h9 : ¬ (m : Int) < 0 := h
  go_enter Tryz.func55, Tryz.ntmps55
  go_wp2
  go_ret
  exact ⟨rfl, rfl⟩
theorem results84 : Tryz.f84.results = #[ResultVar.cell 2 64] := by kernel_rfl
set_option maxRecDepth 1000000 in
set_option maxHeartbeats 1600000 in
theorem ref84_any (s : ByteArray) (w : World) :
  Calls Tryz.prog 84 #[.string s] w fun e w' => e = .returned (.agg #[.int .i64 3, .int .i64 0, .string s, .int .i64 0]) ∧ Below w.heap.size w w' := by
 go_enter Tryz.func84, Tryz.ntmps84
 go_wp2
 refine bodyPost_ret (v := .agg #[.int .i64 3, .int .i64 0, .string s, .int .i64 0]) (by simp [results, results84, go_sem]) rfl ⟨rfl, ?_⟩
 exact (Below.refl w.heap.size w).alloc (Nat.le_refl _) _
/-- A known as its cells. -/
abbrev KQ := Int × Int × ByteArray × Int
abbrev KQ.v (q : KQ) : Value := .agg #[.int .i64 q.1, .int .i64 q.2.1, .string q.2.2.1, .int .i64 q.2.2.2]
def KQ.kn (q : KQ) : KN := ⟨q.1, (q.2.1, L q.2.2.1), q.2.2.2⟩
def kq17 : List KQ := [(0, 0, ⟨#[]⟩, 0), (1, 0, ⟨#[]⟩, 0), (2, 0, ⟨#[]⟩, 0), (5, 0, ⟨#[]⟩, 0), (4, 0, ⟨#[]⟩, 0), (4, 0, ⟨#[]⟩, 7), (3, 0, ⟨#[65]⟩, 0), (3, 0, ⟨#[66]⟩, 0), (3, 0, ⟨#[67]⟩, 0), (3, 0, ⟨#[73]⟩, 0), (3, 0, ⟨#[79, 98, 106, 101, 99, 116]⟩, 0), (3, 0, ⟨#[83, 116, 114, 105, 110, 103]⟩, 0), (3, 0, ⟨#[78, 117, 108, 108]⟩, 0), (3, 1, ⟨#[66]⟩, 0), (3, 1, ⟨#[67]⟩, 0), (3, 1, ⟨#[]⟩, 0), (3, 2, ⟨#[65]⟩, 0)]
def kcells : List KQ → List Value
 | [] => []
 | q :: l => .int .i64 q.1 :: .int .i64 q.2.1 :: .string q.2.2.1 :: .int .i64 q.2.2.2 :: kcells l
theorem kcells_at {l : List KQ} {i : Nat} {q : KQ} (h : l[i]? = some q) : (kcells l)[i * 4]? = some (.int .i64 q.1) ∧ (kcells l)[i * 4 + 1]? = some (.int .i64 q.2.1) ∧ (kcells l)[i * 4 + 2]? = some (.string q.2.2.1) ∧ (kcells l)[i * 4 + 3]? = some (.int .i64 q.2.2.2) := by
 induction l generalizing i with
 | nil => cases h
 | cons a l ih =>
  cases i with
  | zero => cases h; exact ⟨rfl, rfl, rfl, rfl⟩
  | succ i =>
   obtain ⟨a, b, c, d⟩ := ih (i := i) h
   have e : (i + 1) * 4 = i * 4 + 1 + 1 + 1 + 1 := by omega
   rw [e]
   exact ⟨a, b, c, d⟩
theorem kcells_len (l : List KQ) : (kcells l).length = 4 * l.length := by
 induction l with
 | nil => rfl
 | cons a l ih => simp only [kcells, List.length_cons, ih]; omega
theorem results54 : Tryz.f54.results = #[ResultVar.cell 2 64] := by kernel_rfl
set_option maxRecDepth 1000000 in
set_option maxHeartbeats 6400000 in
theorem known_any (c : Int) (hc : -9223372036854775808 ≤ c ∧ c ≤ 9223372036854775807) (w : World) :
  Calls Tryz.prog 54 #[.int .i64 c] w fun e w' => ∃ q ∈ kq17, e = .returned q.v ∧ Below w.heap.size w w' := by
 have HC := Lib.hid hc
 clear hc
 have nb0 : (w.alloc (.cells #[.int .i64 0, .int .i64 0, .string ⟨#[]⟩, .int .i64 0] 64)).heap[w.heap.size]? = _ := hheap_new w _
 have BE0 := Lib.hid ((Below.refl w.heap.size w).alloc (Nat.le_refl _) (.cells #[.int .i64 0, .int .i64 0, .string ⟨#[]⟩, .int .i64 0] 64))
 go_enter Tryz.func54, Tryz.ntmps54
 go_wp2_with fail
 refine (ref84_any ⟨#[65]⟩ _).mono ?_
 rintro e w1 ⟨rfl, hb⟩
 have nb1 := (hb.block _ (lt_of_block nb0)).trans nb0
 have BE1 := Lib.hid (BE0.out.trans (hb.mono BE0.out.size))
 clear hb nb0 BE0
 go_wp2_with fail
 refine (ref84_any ⟨#[66]⟩ _).mono ?_
 rintro e w2 ⟨rfl, hb⟩
 have nb2 := (hb.block _ (lt_of_block nb1)).trans nb1
 have BE2 := Lib.hid (BE1.out.trans (hb.mono BE1.out.size))
 clear hb nb1 BE1
 go_wp2_with fail
 refine (ref84_any ⟨#[67]⟩ _).mono ?_
 rintro e w3 ⟨rfl, hb⟩
 have nb3 := (hb.block _ (lt_of_block nb2)).trans nb2
 have BE3 := Lib.hid (BE2.out.trans (hb.mono BE2.out.size))
 clear hb nb2 BE2
 go_wp2_with fail
 refine (ref84_any ⟨#[73]⟩ _).mono ?_
 rintro e w4 ⟨rfl, hb⟩
 have nb4 := (hb.block _ (lt_of_block nb3)).trans nb3
 have BE4 := Lib.hid (BE3.out.trans (hb.mono BE3.out.size))
 clear hb nb3 BE3
 go_wp2_with fail
 refine (ref84_any ⟨#[79, 98, 106, 101, 99, 116]⟩ _).mono ?_
 rintro e w5 ⟨rfl, hb⟩
 have nb5 := (hb.block _ (lt_of_block nb4)).trans nb4
 have BE5 := Lib.hid (BE4.out.trans (hb.mono BE4.out.size))
 clear hb nb4 BE4
 go_wp2_with fail
 refine (ref84_any ⟨#[83, 116, 114, 105, 110, 103]⟩ _).mono ?_
 rintro e w6 ⟨rfl, hb⟩
 have nb6 := (hb.block _ (lt_of_block nb5)).trans nb5
 have BE6 := Lib.hid (BE5.out.trans (hb.mono BE5.out.size))
 clear hb nb5 BE5
 go_wp2_with fail
 refine (ref84_any ⟨#[78, 117, 108, 108]⟩ _).mono ?_
 rintro e w7 ⟨rfl, hb⟩
 have nb7 := (hb.block _ (lt_of_block nb6)).trans nb6
 have BE7 := Lib.hid (BE6.out.trans (hb.mono BE6.out.size))
 clear hb nb6 BE6
 go_wp2_with fail
 refine (pick7_any c 17 _ HC.out (by decide) (by decide)).mono ?_
 rintro e w8 ⟨rfl, hw8⟩
 have hi := pick7_lt c (n := 17) (by decide)
 generalize pick7 c 17 = i at *
 obtain ⟨q, hq⟩ : ∃ q, kq17[i]? = some q := ⟨_, List.getElem?_eq_getElem (show i < kq17.length from hi)⟩
 have HM := Lib.hid (List.mem_of_getElem? hq)
 have nb : w8.heap[w7.heap.size]? = some (.cells (kcells kq17).toArray 64 (0, 0)) := by rw [hw8]; exact hheap_new w7 _
 have B8 := Lib.hid (show Below w7.heap.size w7 w8 by rw [hw8]; exact (Below.refl _ _).alloc (Nat.le_refl _) _)
 have nbr := (B8.out.block _ (lt_of_block nb7)).trans nb7
 have BE8 := Lib.hid (BE7.out.trans (B8.out.mono BE7.out.size))
 have hlt7 := lt_of_block nb7
 obtain ⟨p, hp⟩ : ∃ p, w7.heap.size = p := ⟨_, rfl⟩
 rw [hp] at nb hlt7 ⊢
 clear hw8 nb7 BE7 B8 hp w7
 have c0 := (kcells_of nb (i * 4)).trans ((List.getElem?_toArray ..).trans (kcells_at hq).1)
 have c1 := (kcells_of nb (i * 4 + 1)).trans ((List.getElem?_toArray ..).trans (kcells_at hq).2.1)
 have c2 := (kcells_of nb (i * 4 + 2)).trans ((List.getElem?_toArray ..).trans (kcells_at hq).2.2.1)
 have c3 := (kcells_of nb (i * 4 + 3)).trans ((List.getElem?_toArray ..).trans (kcells_at hq).2.2.2)
 have r0 := kcells_of nbr 0
 have r1 := kcells_of nbr 1
 have r2 := kcells_of nbr 2
 have r3 := kcells_of nbr 3
 have rf := kfree_of nbr
 have hltr := lt_of_block nbr
 simp only [List.getElem?_toArray, List.getElem?_cons_succ, List.getElem?_cons_zero] at r0 r1 r2 r3
 obtain ⟨q0, q1, q2, q3⟩ := q
 simp only at c0 c1 c2 c3
 clear nb hq
 go_wp2
 have hbx := set4 nbr (.int .i64 q0) (.int .i64 q1) (.string q2) (.int .i64 q3)
 have z0 := kcells_of hbx 0
 have z1 := kcells_of hbx 1
 have z2 := kcells_of hbx 2
 have z3 := kcells_of hbx 3
 simp only [List.getElem?_toArray, List.getElem?_cons_succ, List.getElem?_cons_zero] at z0 z1 z2 z3
 refine bodyPost_ret (v := .agg #[.int .i64 q0, .int .i64 q1, .string q2, .int .i64 q3]) (by simp [results, results54, go_sem, z0, z1, z2, z3]) rfl ⟨(q0, q1, q2, q3), HM.out, rfl, ?_⟩
 have le : ∀ j, w.heap.size ≤ (⟨w.heap.size, j, none⟩ : Addr).block := fun j => Nat.le_refl _
 exact (((BE8.out.setCell (le 0) _).setCell (le 1) _).setCell (le 2) _).setCell (le 3) _
end Go.Proofs.YtmaknddlgppinaaGreatDoor
