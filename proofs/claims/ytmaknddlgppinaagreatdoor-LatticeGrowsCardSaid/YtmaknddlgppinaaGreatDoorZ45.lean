/-
  CUT and joined from the texts of this seat: Mk
-/
import Derived.Test.YtmaknddlgppinaaGreatDoorZ01
import Derived.Test.YtmaknddlgppinaaGreatDoorZ44
import Derived.Test.YtmaknddlgppinaaGreatDoorZ09
import Derived.Laws.OwnMore
set_option linter.unusedVariables false
set_option linter.unusedSimpArgs false
namespace Go.Proofs.YtmaknddlgppinaaGreatDoor
open Go.RowKit
def zq : KQ := (0, 0, ⟨#[]⟩, 0)
theorem info64 : ∃ i, Tryz.prog.info? 64 = some i ∧ i.zero = some (.agg #[.int .i64 0, .int .i64 0, .string ⟨#[]⟩, .int .i64 0]) ∧ i.size = 4 ∧ i.bytes = 40 := info_parts (by kernel_rfl)
theorem kcells_app (a b : List KQ) : kcells (a ++ b) = kcells a ++ kcells b := by
 induction a with
 | nil => rfl
 | cons q a ih => simp only [List.cons_append, kcells, ih]
theorem kcells_zero_at (n j : Nat) (hj : j < n * 4) : (kcells (List.replicate n zq))[j]? = some (#[Value.int .i64 0, .int .i64 0, .string ⟨#[]⟩, .int .i64 0][j % 4]!) := by
 obtain ⟨k, r, rfl, hr⟩ : ∃ k r, j = k * 4 + r ∧ r < 4 := ⟨j / 4, j % 4, by omega, by omega⟩
 have hk : (List.replicate n zq)[k]? = some zq := by rw [List.getElem?_replicate]; rw [if_pos (by omega)]
 obtain ⟨h0, h1, h2, h3⟩ := kcells_at hk
 have hm : (k * 4 + r) % 4 = r := by omega
 rw [hm]
 match r, hr with
 | 0, _ => exact h0
 | 1, _ => exact h1
 | 2, _ => exact h2
 | 3, _ => exact h3
theorem made_knowns (n : Nat) : madeCells #[Value.int .i64 0, .int .i64 0, .string ⟨#[]⟩, .int .i64 0] (n * 4) = (kcells (List.replicate n zq)).toArray := by
 apply Array.ext_getElem?
 intro j
 by_cases hj : j < n * 4
 ·have e : (kcells (List.replicate n zq)).toArray[j]? = (kcells (List.replicate n zq))[j]? := List.getElem?_toArray ..
  rw [e, kcells_zero_at n j hj]
  unfold madeCells
  simp [hj]
 ·rw [Array.getElem?_eq_none (by rw [size_madeCells]; omega), Array.getElem?_eq_none (by simp [kcells_len]; omega)]
theorem make_knowns (n : Nat) (hn : n ≤ 1048576) (w : World) : (Instr.makeSlice 60 (.int .i64 (n : Int)) (.int .i64 (n : Int))).run Tryz.prog w = .ok (.slice (some ⟨w.heap.size, 0, none⟩) n n) (w.alloc (.cells (kcells (List.replicate n zq)).toArray 64)) := by
 obtain ⟨i0, hi, hz0, hz1, hz2⟩ := info64
 have := run_make (P := Tryz.prog) w 60 64 i0 _ (by kernel_rfl) hi hz0 .i64 .i64 n n (by omega) (Int.le_refl _) (by rw [hz2]; omega) (by omega)
 rw [this, Int.toNat_natCast, hz1]
 show Result.ok _ (w.alloc (.cells (madeCells #[Value.int .i64 0, .int .i64 0, .string ⟨#[]⟩, .int .i64 0] (n * 4)) 64)) = _
 rw [made_knowns]
theorem kcells_set {l : List KQ} {i : Nat} (q : KQ) (hi : i < l.length) : ((((kcells l).set (i * 4) (.int .i64 q.1)).set (i * 4 + 1) (.int .i64 q.2.1)).set (i * 4 + 2) (.string q.2.2.1)).set (i * 4 + 3) (.int .i64 q.2.2.2) = kcells (l.set i q) := by
 induction l generalizing i with
 | nil => simp at hi
 | cons a l ih =>
  cases i with
  | zero => rfl
  | succ i =>
   have e : (i + 1) * 4 = i * 4 + 1 + 1 + 1 + 1 := by omega
   rw [e]
   have := ih (i := i) (by simpa using hi)
   simp only [List.set_cons_succ, kcells]
   rw [this]
/-- A row of knowns in a block of its own. -/
def KBlk (p : Nat) (l : List KQ) (w : World) : Prop := w.heap[p]? = some (.cells (kcells l).toArray 64 (0, 0))
theorem KBlk.below {p : Nat} {l : List KQ} {w w' : World} (h : KBlk p l w) (hb : Below w.heap.size w w') : KBlk p l w' := (hb.block _ (lt_of_block h)).trans h
theorem KBlk.put {p i : Nat} {l : List KQ} {w : World} (h : KBlk p l w) (q : KQ) (hi : i < l.length) :
  KBlk p (l.set i q) ((((w.setCell ⟨p, i * 4, none⟩ (.int .i64 q.1)).setCell ⟨p, i * 4 + 1, none⟩ (.int .i64 q.2.1)).setCell ⟨p, i * 4 + 2, none⟩ (.string q.2.2.1)).setCell ⟨p, i * 4 + 3, none⟩ (.int .i64 q.2.2.2)) := by
 unfold KBlk at h ⊢
 have h1 := heap_set_eq h (i := i * 4) (u := .int .i64 q.1)
 have h2 := heap_set_eq h1 (i := i * 4 + 1) (u := .int .i64 q.2.1)
 have h3 := heap_set_eq h2 (i := i * 4 + 2) (u := .string q.2.2.1)
 have h4 := heap_set_eq h3 (i := i * 4 + 3) (u := .int .i64 q.2.2.2)
 rw [h4, ← kcells_set q hi]
 simp
theorem KBlk.row {p : Nat} {l : List KQ} {w : World} (h : KBlk p l w) (hl : l.length ≤ maxLen) {B : Nat} (hp : p < B) : KRow B w (.slice (some ⟨p, 0, none⟩) l.length l.length) l := by
 refine ⟨_, _, rfl, Nat.le_refl _, hl, by rw [kcells_len]; omega, fun _ => ⟨p, 0, rfl, hp, fun j u hj => ?_⟩⟩
 rw [Nat.zero_add, kcells_of h j]
 simpa using hj
/-- What joins makes. -/
def JoinL (cs : List PC) (la lb l : List KQ) : Prop := l.length = min la.length lb.length ∧ ∀ (i : Nat) (qa qb : KQ), la[i]? = some qa → lb[i]? = some qb → ∃ q, l[i]? = some q ∧ q.kn = joinK cs VT qa.kn qb.kn ∧ q.2.2.1.size ≤ 1000000
section
variable {Bt tb mb cap ow : Nat} {A : Option Addr} {cs : List PC} {cl sl : Nat → Nat} {S : Nat → List Nat}
set_option maxRecDepth 1000000 in
set_option maxHeartbeats 6400000 in
theorem joins_any {B : Nat} (la lb : List KQ) (va vb : Value) (w : World) (h : HT Bt tb mb A cap ow cs cl sl S w) (ha : KRow B w va la) (hb : KRow B w vb lb) (hB : B ≤ w.heap.size) (hsa : Small la) (hsb : Small lb) (hn : la.length ≤ 1000000) :
  Calls Tryz.prog 89 #[.pointer (some ⟨tb, 0, none⟩), va, vb] w fun e w' => ∃ p l, e = .returned (.slice (some ⟨p, 0, none⟩) l.length l.length) ∧ w.heap.size ≤ p ∧ KBlk p l w' ∧ JoinL cs la lb l ∧ Below w.heap.size w w' := by
 obtain ⟨Aa, ca, rfl, _, hma⟩ := ha.form
 obtain ⟨Ab, cb, rfl, _, hmb⟩ := hb.form
 have Ha := Lib.hid ha
 have Hb := Lib.hid hb
 have HT := Lib.hid h
 have hMa : ((la.length : Nat) : Int) ≤ 9223372036854775807 := by unfold maxLen at hma; omega
 have hMb : ((lb.length : Nat) : Int) ≤ 9223372036854775807 := by unfold maxLen at hmb; omega
 clear ha hb hma hmb h
 obtain ⟨N, hN⟩ : ∃ N, N = min la.length lb.length := ⟨_, rfl⟩
 have HN := Lib.hid hN
 have hNa : N ≤ la.length := by omega
 have hNb : N ≤ lb.length := by omega
 have hm : ∀ W, (Instr.makeSlice 60 (.int .i64 (min (la.length : Int) (lb.length : Int))) (.int .i64 (min (la.length : Int) (lb.length : Int)))).run Tryz.prog W = .ok (.slice (some ⟨W.heap.size, 0, none⟩) N N) (W.alloc (.cells (kcells (List.replicate N zq)).toArray 64)) := fun W => by
  rw [show min (la.length : Int) (lb.length : Int) = (N : Int) by omega]
  exact make_knowns N (by omega) W
 have hMN : ((N : Nat) : Int) ≤ 9223372036854775807 := by omega
 clear hN
 obtain ⟨p, hp⟩ : ∃ p, p = w.heap.size := ⟨_, rfl⟩
 have hpw : w.heap.size ≤ p := by omega
 have B0 := Lib.hid ((Below.refl w.heap.size w).alloc (Nat.le_refl _) (.cells (kcells (List.replicate N zq)).toArray 64))
 have K0 := Lib.hid (show KBlk p (List.replicate N zq) (w.alloc (.cells (kcells (List.replicate N zq)).toArray 64)) from hp ▸ hheap_new w _)
 go_enter Tryz.func89, Tryz.ntmps89
 go_wp2
 rw [← hp]
 have HPW := Lib.hid hp
 clear hp
 go_loopg [17] N (fun g iv wx => ∃ (i : Nat) (l : List KQ), iv = .int .i64 i ∧ i + g = N ∧ l.length = N ∧ KBlk p l wx ∧ (∀ (k : Nat) (qa qb : KQ), k < i → la[k]? = some qa → lb[k]? = some qb → ∃ q, l[k]? = some q ∧ q.kn = joinK cs VT qa.kn qb.kn ∧ q.2.2.1.size ≤ 1000000) ∧ Below w.heap.size w wx)
 case atStart => exact ⟨0, _, rfl, by omega, List.length_replicate .., K0.out, fun k _ _ hk => by omega, B0.out⟩
 case round =>
  obtain ⟨i, l, rfl, hig, hln, hkb, hsame, hbx⟩ := hrel
  obtain ⟨V0, hV⟩ : ∃ x, x = wr := ⟨_, rfl⟩
  subst hV
  have X := Lib.hid hbx
  have SM := Lib.hid hsame
  have KB := Lib.hid hkb
  have LN := Lib.hid hln
  clear hbx hsame hkb hln B0 K0
  by_cases hi : i < N
  ·have hgx : gk - 1 < gk := by omega
   have hia : i < la.length := by omega
   have hib : i < lb.length := by omega
   have e2 : decide (((i : Nat) : Int) < ((N : Nat) : Int)) = true := decide_eq_true (by omega)
   obtain ⟨⟨ka, da, sa, na⟩, hqa⟩ : ∃ q, la[i]? = some q := ⟨_, List.getElem?_eq_getElem (by omega)⟩
   obtain ⟨ba, oa, rfl, hba, x0, x1, x2, x3⟩ := KRow.at_ Ha.out hqa
   simp only at x0 x1 x2 x3
   have wa0 := x0
   have wa1 := x1
   have wa2 := x2
   have wa3 := x3
   clear x0 x1 x2 x3
   obtain ⟨⟨kb, db, sb, nb⟩, hqb⟩ : ∃ q, lb[i]? = some q := ⟨_, List.getElem?_eq_getElem (by omega)⟩
   obtain ⟨bb, ob, rfl, hbb, x0, x1, x2, x3⟩ := KRow.at_ Hb.out hqb
   simp only at x0 x1 x2 x3
   have wb0 := x0
   have wb1 := x1
   have wb2 := x2
   have wb3 := x3
   clear x0 x1 x2 x3
   have QA := Lib.hid hqa
   have QB := Lib.hid hqb
   have za : sa.size ≤ 1000000 := hsa _ (List.mem_of_getElem? hqa)
   have zb : sb.size ≤ 1000000 := hsb _ (List.mem_of_getElem? hqb)
   clear hqa hqb
   go_upto_region 5 with fail
   have T0 := X.out.drew
   refine wp_region_held_drew (S := fun W => Below w.heap.size w W) (by kernel_rfl) T0 (fun hS0 => ?_)
   refine wpAnyH_take (i := 0) (oi := ({ dst := some 20, op := Op.move (Operand.tmp 7), type := 60, pos := "states.go:34", after := #[], guard := none } : Oper)) (v := ?av1) rfl (by kernel_rfl) (by kernel_rfl) (by kernel_rfl) (fun _ _ _ h => h) (Or.inl ⟨by rfl, ?ay1⟩) T0 ?_
   case ay1 => (intro V hSw; go_simp; try with_reducible rfl)
   try simp only [pu0, puN, pu1, pu2, pu3]
   refine wpAnyH_take (i := 1) (oi := ({ dst := some 21, op := Op.move (Operand.tmp 8), type := 3, pos := "states.go:34", after := #[], guard := none } : Oper)) (v := ?av2) rfl (by kernel_rfl) (by kernel_rfl) (by kernel_rfl) (fun _ _ _ h => h) (Or.inl ⟨by rfl, ?ay2⟩) T0 ?_
   case ay2 => (intro V hSw; go_simp; try with_reducible rfl)
   try simp only [pu0, puN, pu1, pu2, pu3]
   refine wpAnyH_take (i := 2) (oi := ({ dst := some 22, op := Op.move (Operand.tmp 0), type := 32, pos := "states.go:34", after := #[], guard := none } : Oper)) (v := ?av3) rfl (by kernel_rfl) (by kernel_rfl) (by kernel_rfl) (fun _ _ _ h => h) (Or.inl ⟨by rfl, ?ay3⟩) T0 ?_
   case ay3 => (intro V hSw; go_simp; try with_reducible rfl)
   try simp only [pu0, puN, pu1, pu2, pu3]
   refine wpAnyH_take (i := 3) (oi := ({ dst := some 23, op := Op.move (Operand.tmp 1), type := 60, pos := "states.go:34", after := #[], guard := none } : Oper)) (v := ?av4) rfl (by kernel_rfl) (by kernel_rfl) (by kernel_rfl) (fun _ _ _ h => h) (Or.inl ⟨by rfl, ?ay4⟩) T0 ?_
   case ay4 => (intro V hSw; go_simp; try with_reducible rfl)
   try simp only [pu0, puN, pu1, pu2, pu3]
   refine wpAnyH_take (i := 4) (oi := ({ dst := some 24, op := Op.move (Operand.tmp 8), type := 3, pos := "states.go:34", after := #[], guard := none } : Oper)) (v := ?av5) rfl (by kernel_rfl) (by kernel_rfl) (by kernel_rfl) (fun _ _ _ h => h) (Or.inl ⟨by rfl, ?ay5⟩) T0 ?_
   case ay5 => (intro V hSw; go_simp; try with_reducible rfl)
   try simp only [pu0, puN, pu1, pu2, pu3]
   refine wpAnyH_take (i := 5) (oi := ({ dst := some 25, op := Op.indexAddr 60 (Operand.tmp 23) (Operand.tmp 24), type := 0, pos := "states.go:34", after := #[{ on := 3, ground := Ground.data }, { on := 4, ground := Ground.data }], guard := none } : Oper)) (v := ?av6) rfl (by kernel_rfl) (by kernel_rfl) (by kernel_rfl) (fun _ _ _ h => h) (Or.inl ⟨by rfl, ?ay6⟩) T0 ?_
   case ay6 => (intro V hSw; go_simp; try with_reducible rfl)
   try simp only [pu0, puN, pu1, pu2, pu3]
   refine wpAnyH_take (i := 6) (oi := ({ dst := some 26, op := Op.load 64 (Operand.tmp 25), type := 64, pos := "states.go:34", after := #[{ on := 5, ground := Ground.data }], guard := none } : Oper)) (v := ?av7) rfl (by kernel_rfl) (by kernel_rfl) (by kernel_rfl) (fun _ _ _ h => h) (Or.inl ⟨by rfl, ?ay7⟩) T0 ?_
   case ay7 => (intro V hSw; have ca0 := (hSw.cell (p := ⟨ba, oa + i * 4, none⟩) (Nat.lt_of_lt_of_le hba hB)).trans wa0; have ca1 := (hSw.cell (p := ⟨ba, oa + i * 4 + 1, none⟩) (Nat.lt_of_lt_of_le hba hB)).trans wa1; have ca2 := (hSw.cell (p := ⟨ba, oa + i * 4 + 2, none⟩) (Nat.lt_of_lt_of_le hba hB)).trans wa2; have ca3 := (hSw.cell (p := ⟨ba, oa + i * 4 + 3, none⟩) (Nat.lt_of_lt_of_le hba hB)).trans wa3; go_simp; try with_reducible rfl)
   try simp only [pu0, puN, pu1, pu2, pu3]
   refine wpAnyH_take (i := 7) (oi := ({ dst := some 27, op := Op.move (Operand.tmp 2), type := 60, pos := "states.go:34", after := #[], guard := none } : Oper)) (v := ?av8) rfl (by kernel_rfl) (by kernel_rfl) (by kernel_rfl) (fun _ _ _ h => h) (Or.inl ⟨by rfl, ?ay8⟩) T0 ?_
   case ay8 => (intro V hSw; go_simp; try with_reducible rfl)
   try simp only [pu0, puN, pu1, pu2, pu3]
   refine wpAnyH_take (i := 8) (oi := ({ dst := some 28, op := Op.move (Operand.tmp 8), type := 3, pos := "states.go:34", after := #[], guard := none } : Oper)) (v := ?av9) rfl (by kernel_rfl) (by kernel_rfl) (by kernel_rfl) (fun _ _ _ h => h) (Or.inl ⟨by rfl, ?ay9⟩) T0 ?_
   case ay9 => (intro V hSw; go_simp; try with_reducible rfl)
   try simp only [pu0, puN, pu1, pu2, pu3]
   refine wpAnyH_take (i := 9) (oi := ({ dst := some 29, op := Op.indexAddr 60 (Operand.tmp 27) (Operand.tmp 28), type := 0, pos := "states.go:34", after := #[{ on := 7, ground := Ground.data }, { on := 8, ground := Ground.data }], guard := none } : Oper)) (v := ?av10) rfl (by kernel_rfl) (by kernel_rfl) (by kernel_rfl) (fun _ _ _ h => h) (Or.inl ⟨by rfl, ?ay10⟩) T0 ?_
   case ay10 => (intro V hSw; go_simp; try with_reducible rfl)
   try simp only [pu0, puN, pu1, pu2, pu3]
   refine wpAnyH_take (i := 10) (oi := ({ dst := some 30, op := Op.load 64 (Operand.tmp 29), type := 64, pos := "states.go:34", after := #[{ on := 9, ground := Ground.data }], guard := none } : Oper)) (v := ?av11) rfl (by kernel_rfl) (by kernel_rfl) (by kernel_rfl) (fun _ _ _ h => h) (Or.inl ⟨by rfl, ?ay11⟩) T0 ?_
   case ay11 => (intro V hSw; have cb0 := (hSw.cell (p := ⟨bb, ob + i * 4, none⟩) (Nat.lt_of_lt_of_le hbb hB)).trans wb0; have cb1 := (hSw.cell (p := ⟨bb, ob + i * 4 + 1, none⟩) (Nat.lt_of_lt_of_le hbb hB)).trans wb1; have cb2 := (hSw.cell (p := ⟨bb, ob + i * 4 + 2, none⟩) (Nat.lt_of_lt_of_le hbb hB)).trans wb2; have cb3 := (hSw.cell (p := ⟨bb, ob + i * 4 + 3, none⟩) (Nat.lt_of_lt_of_le hbb hB)).trans wb3; go_simp; try with_reducible rfl)
   try simp only [pu0, puN, pu1, pu2, pu3]
   refine wpAnyH_ready (rs := [11]) (by kernel_rfl) (by simp) ?_
   refine (AllReadyH.cons (o := _) rfl (fun K hK => ?_) AllReadyH.nil)
   go_simp
   refine (Join_any (HT.out.below (T0.mono HT.out.hB)) za zb).mono ?_
   rintro e P12 ⟨kj, dj, nj, sj, rfl, hE, hs, hb12⟩
   have KB1 := Lib.hid (KBlk.below (show KBlk p l V0.drew from KB.out) hb12)
   have HE := Lib.hid hE
   have HS := Lib.hid hs
   clear hE hs
   have T12 := T0.trans (hb12.mono T0.size)
   try go_wp2_with fail
   refine hK.out _ _ T12 (fun hS12 => ?_)
   clear hK K
   try simp only [pu0, puN, pu1, pu2, pu3]
   refine wpAnyH_take (i := 12) (oi := ({ dst := some 32, op := Op.indexAddr 60 (Operand.tmp 20) (Operand.tmp 21), type := 0, pos := "states.go:34", after := #[{ on := 0, ground := Ground.data }, { on := 1, ground := Ground.data }, { on := 0, ground := Ground.phase }, { on := 1, ground := Ground.phase }, { on := 2, ground := Ground.phase }, { on := 3, ground := Ground.phase }, { on := 4, ground := Ground.phase }, { on := 5, ground := Ground.phase }, { on := 6, ground := Ground.phase }, { on := 7, ground := Ground.phase }, { on := 8, ground := Ground.phase }, { on := 9, ground := Ground.phase }, { on := 10, ground := Ground.phase }, { on := 11, ground := Ground.phase }], guard := none } : Oper)) (v := ?av13) rfl (by kernel_rfl) (by kernel_rfl) (by kernel_rfl) (fun _ _ _ h => h) (Or.inl ⟨by rfl, ?ay13⟩) T12 ?_
   case ay13 => (intro V hSw; go_simp; try with_reducible rfl)
   try simp only [pu0, puN, pu1, pu2, pu3]
   refine wpAnyH_ready (rs := [13]) (by kernel_rfl) (by simp) ?_
   refine (AllReadyH.cons (o := _) rfl (fun K hK => ?_) AllReadyH.nil)
   go_simp
   skip
   obtain ⟨q0, hq0⟩ : ∃ q, l[i]? = some q := ⟨_, List.getElem?_eq_getElem (by have := LN.out; omega)⟩
   obtain ⟨f0, f1, f2, f3⟩ := kcells_at hq0
   have n0 := (kcells_of KB1.out (i * 4)).trans ((List.getElem?_toArray ..).trans f0)
   have n1 := (kcells_of KB1.out (i * 4 + 1)).trans ((List.getElem?_toArray ..).trans f1)
   have n2 := (kcells_of KB1.out (i * 4 + 2)).trans ((List.getElem?_toArray ..).trans f2)
   have n3 := (kcells_of KB1.out (i * 4 + 3)).trans ((List.getElem?_toArray ..).trans f3)
   have nf := kfree_of KB1.out
   have hlp := lt_of_block KB1.out
   clear f0 f1 f2 f3 hq0
   go_simp
   have KB2 := Lib.hid (KB1.out.put (kj, dj, sj, nj) (i := i) (by have := LN.out; omega))
   have T14 := (((T12.setCell (p := ⟨p, i * 4, none⟩) hpw (.int .i64 kj)).setCell (p := ⟨p, i * 4 + 1, none⟩) hpw (.int .i64 dj)).setCell (p := ⟨p, i * 4 + 2, none⟩) hpw (.string sj)).setCell (p := ⟨p, i * 4 + 3, none⟩) hpw (.int .i64 nj)
   try go_wp2_with fail
   refine hK.out _ _ T14 (fun hS14 => ?_)
   clear hK K
   try simp only [pu0, puN, pu1, pu2, pu3]
   refine wpAnyH_done (by kernel_rfl) ?_ _
   go_wp2
   go_roundg (gk - 1)
   case measure => exact hgx
   case rel => exact ⟨i + 1, l.set i (kj, dj, sj, nj), by go_num, by omega, by rw [List.length_set]; exact LN.out, KB2.out, fun k qa qb hk ha hb => by
    rcases Nat.lt_succ_iff_lt_or_eq.1 hk with h | rfl
    ·obtain ⟨q, h1, h2⟩ := SM.out k qa qb h ha hb
     exact ⟨q, by rw [List.getElem?_set_ne (by omega)]; exact h1, h2⟩
    ·cases QA.out.symm.trans ha; cases QB.out.symm.trans hb
     exact ⟨_, List.getElem?_set_self (by have := LN.out; omega), HE.out, HS.out⟩, T14⟩
  ·have e2 : decide (((i : Nat) : Int) < ((N : Nat) : Int)) = false := decide_eq_false (by omega)
   have hNi : N ≤ i := by omega
   clear hi
   go_wp2
   go_ret
   exact ⟨p, l, by rw [LN.out]; rfl, hpw, KB.out, ⟨LN.out.trans HN.out, fun k qa qb ha hb => SM.out k qa qb (by have := (List.getElem?_eq_some_iff.1 hb).1; have := (List.getElem?_eq_some_iff.1 ha).1; have := HN.out; omega) ha hb⟩, X.out⟩
end
theorem cloneK_lays : SlLaysE0.n41 Tryz.prog (sl_ren 91 60 64) := {
 mixed := by kernel_rfl
 f41 := ⟨Tryz.f91.name, by kernel_rfl, Tryz.func91.trans (congrArg some (by kernel_rfl))⟩
 t4 := Tryz.underlying4
 a4 := Tryz.isAgg4
 z4 := Tryz.sizeOf4
 v4 := Tryz.zeroValue4
 t22 := Tryz.underlying60
 a22 := Tryz.isAgg60
 z22 := Tryz.sizeOf60
 v22 := Tryz.zeroValue60 }
theorem kcells_one (l : List KQ) : ∀ u ∈ kcells l, u.oneCell' = true := by
 induction l with
 | nil => intro u h; cases h
 | cons q l ih =>
  intro u h
  simp only [kcells, List.mem_cons] at h
  rcases h with rfl | rfl | rfl | rfl | h
  ·rfl
  ·rfl
  ·rfl
  ·rfl
  ·exact ih u h
/-- Where a list of knowns may stand: nowhere, or in a row. -/
def Plc (v : Value) : Prop := ∃ A n c, v = .slice A n c ∧ (A = none ∨ ∃ b o, A = some ⟨b, o, none⟩)
theorem cloneK_any {B : Nat} {v : Value} {l : List KQ} {w : World} (hr : KRow B w v l) (ha : Plc v) (hn : l.length ≤ 1000000) :
  Calls Tryz.prog 91 #[v] w fun e w' => ∃ v', e = .returned v' ∧ w'.ownsRow w.heap.size 64 4 v' l.length (kcells l) ∧ Below w.heap.size w w' := by
 obtain ⟨A, cap, rfl, hcap, hm, hl, hc⟩ := hr
 obtain ⟨i0, hi0, hz0, hz1, hz2⟩ := info64
 obtain ⟨A', n', c', e, ha⟩ := ha
 injection e with e1 e2 e3
 subst e1
 rcases ha with rfl | ⟨b, o, rfl⟩
 ·have h0 : l.length = 0 := by
   by_cases h : 0 < l.length
   ·obtain ⟨b, o, e, _⟩ := hc h; cases e
   ·omega
  refine (AnyE.slices_Clone_nil cloneK_lays _ _ w).mono ?_
  rintro e w' ⟨rfl, rfl⟩
  have : l = [] := List.length_eq_zero_iff.1 h0
  subst this
  exact ⟨_, rfl, World.ownsRow_nil _ _ _ _, Below.refl _ _⟩
 ·refine (AnyE.slices_Clone cloneK_lays i0 _ 4 40 hi0 hz0 hz1 hz2 rfl (by decide) Tryz.sizeOf64 b o l.length cap (kcells l) w (by rw [kcells_len]; omega) hm (by omega) (fun j u hj => by
   by_cases h : 0 < l.length
   ·obtain ⟨b', o', e, _, h2⟩ := hc h
    cases e
    exact h2 j u hj
   ·have : l = [] := List.length_eq_zero_iff.1 (by omega)
    subst this
    cases hj) (kcells_one l)).mono ?_
  rintro e w' ⟨v', rfl, h1, _, h3⟩
  exact ⟨v', rfl, h1, h3⟩
end Go.Proofs.YtmaknddlgppinaaGreatDoor
