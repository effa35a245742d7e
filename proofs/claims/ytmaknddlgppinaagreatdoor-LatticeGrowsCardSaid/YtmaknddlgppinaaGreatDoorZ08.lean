/-
  CUT and joined from the texts of this seat: Hr Ha Hb
-/
import Derived.Test.YtmaknddlgppinaaGreatDoorZ03
import Derived.Test.YtmaknddlgppinaaGreatDoorRows
import Derived.Test.YtmaknddlgppinaaGreatDoorZ04
import Derived.Test.YtmaknddlgppinaaGreatDoorZ05
import Derived.Test.YtmaknddlgppinaaGreatDoorZ07
import Derived.WalkKit
import Derived.WalkSpells
import Derived.WalkLawsBesides
import Derived.Below
import Derived.BigQuiet
import Derived.OneCell
import Derived.Laws.OwnMore
import Derived.Deep.AppendLies
import Derived.Deep.Draws
import Derived.Lib.Hide
import Derived.LoopN
import Derived.RegionTactic
import Derived.Deep.RegionWith
set_option linter.unusedVariables false
set_option linter.unusedSimpArgs false
namespace Go.Proofs.YtmaknddlgppinaaGreatDoor
open Go.RowKit
theorem Below.hlink {a b c : World} (h : Below a.heap.size a b) (k : Below b.heap.size b c) : Below a.heap.size a c := h.trans (k.mono h.size)
theorem hheap_new (w : World) (o : Obj) : (w.alloc o).heap[w.heap.size]? = some o := by
 show (w.heap.push o)[w.heap.size]? = _
 simp
theorem hheap_alloc_lt {w : World} {o : Obj} {k : Nat} {x : Obj} (h : w.heap[k]? = some x) : (w.alloc o).heap[k]? = some x := (Below.heap_alloc _ _ _ (lt_of_block h)).trans h
theorem hheap_set_ne {w : World} {a : Addr} {u : Value} {k : Nat} {x : Obj} (hk : k ≠ a.block) (h : w.heap[k]? = some x) : (w.setCell a u).heap[k]? = some x := (Below.heap_setCell _ _ _ _ hk).trans h
theorem hnew_cells (w : World) (cs : List Value) (t : TypeId) : ∀ j u, cs[j]? = some u → (w.alloc (.cells cs.toArray t)).cell? (({ block := w.heap.size, off := 0 } : Addr).add j) = some u := by
 intro j u h
 rw [plain_add]
 have := World.cell?_alloc_mark w cs.toArray t (0, 0) j
 rw [Nat.zero_add, this]
 simpa using h
theorem hown_below {w w' : World} {base : Nat} {e : TypeId} {size : Nat} {v : Value} {n : Nat} {xs : List Value} (own : w.ownsRow base e size v n xs) (h : Below w.heap.size w w') : w'.ownsRow base e size v n xs :=
 own.kept (row := none) ⟨h.os, h.tape, h.output, h.size, fun k hk _ => h.block k hk⟩ (by
  cases hv : v.ownBlock with
  | none => exact .inl rfl
  | some g => exact .inr (by simp))
theorem hown_form {w : World} {base : Nat} {t : TypeId} {s : Nat} {v : Value} {n : Nat} {xs : List Value} (h : w.ownsRow base t s v n xs) : ∃ a c, v = .slice a n c := by
 rcases h.2 with ⟨rfl, h0⟩ | ⟨g, cap, cur, rfl, hr⟩
 ·exact ⟨_, _, by rw [h0]⟩
 ·exact ⟨_, _, rfl⟩
theorem hown_ne {w : World} {base : Nat} {e : TypeId} {size : Nat} {v : Value} {n : Nat} {xs : List Value} (h : w.ownsRow base e size v n xs) {q : Nat} {cs : Array Value} {t : TypeId} {m : Nat × Nat} (hq : w.heap[q]? = some (.cells cs t m)) (ht : t ≠ e) : v.ownBlock ≠ some q := by
 rcases h.2 with ⟨rfl, _⟩ | ⟨g, cap, cur, rfl, _, hgg, _⟩
 ·simp [Value.ownBlock]
 ·intro e1
  simp [Value.ownBlock] at e1
  subst e1
  rw [hgg] at hq
  simp only [Option.some.injEq, Obj.cells.injEq] at hq
  exact ht hq.2.1.symm
theorem hown_block_ge {w : World} {base : Nat} {e : TypeId} {size : Nat} {v : Value} {n : Nat} {xs : List Value} (h : w.ownsRow base e size v n xs) : ∀ k, v.ownBlock = some k → base ≤ k := by
 intro k hk
 rcases h.2 with ⟨rfl, _⟩ | ⟨g, cap, cur, rfl, hb, _⟩
 ·cases hk
 ·injection hk with hk
  subst hk
  exact hb
theorem hown_mono {w : World} {base base' : Nat} {e : TypeId} {size : Nat} {v : Value} {n : Nat} {xs : List Value} (h : w.ownsRow base e size v n xs) (hb : base' ≤ base) : w.ownsRow base' e size v n xs := by
 obtain ⟨h1, h2⟩ := h
 refine ⟨h1, ?_⟩
 rcases h2 with h2 | ⟨g, cap, cur, hv, hg, r⟩
 ·exact .inl h2
 ·exact .inr ⟨g, cap, cur, hv, Nat.le_trans hb hg, r⟩
/-- A slice that was just laid, full. -/
theorem hown_new {w : World} {b base : Nat} {e : TypeId} {size n : Nat} {cs : List Value} (h : w.heap[b]? = some (.cells cs.toArray e (0, 0))) (hb : base ≤ b) (hl : cs.length = n * size) (hn : n ≤ maxLen) : w.ownsRow base e size (.slice (some ⟨b, 0, none⟩) n n) n cs :=
 ⟨hl, .inr ⟨b, n, cs.toArray, rfl, hb, h, Nat.le_refl _, hn, by simp [hl], by simp [← hl]⟩⟩
/-- Below block 'base' all is as it was; so is each block that holds no cells of type T, wherever it lies. -/
structure HKept (T : TypeId) (base : Nat) (w w' : World) : Prop where
 below : Below base w w'
 other : ∀ (k : Nat) (cs : Array Value) (t : TypeId) (m : Nat × Nat), t ≠ T → w.heap[k]? = some (.cells cs t m) → w'.heap[k]? = some (.cells cs t m)
section
variable {T : TypeId} {base : Nat} {a b c w w' : World}
theorem HKept.refl (T : TypeId) (base : Nat) (w : World) : HKept T base w w := ⟨Below.refl _ _, fun _ _ _ _ _ h => h⟩
theorem HKept.trans (h : HKept T base a b) (k : HKept T base b c) : HKept T base a c := ⟨h.below.trans k.below, fun i cs t m ht e => k.other i cs t m ht (h.other i cs t m ht e)⟩
theorem HKept.of_below (h : Below w.heap.size w w') (hb : base ≤ w.heap.size) : HKept T base w w' := ⟨h.mono hb, fun k cs t m _ e => (h.block k (lt_of_block e)).trans e⟩
theorem HKept.alloc (h : HKept T base a w) (hB : base ≤ w.heap.size) (o : Obj) : HKept T base a (w.alloc o) := h.trans (HKept.of_below ((Below.refl _ _).alloc (Nat.le_refl _) o) hB)
theorem HKept.drew (h : HKept T base a w) : HKept T base a w.drew := ⟨h.below.drew, h.other⟩
theorem HKept.size (h : HKept T base a w) : a.heap.size ≤ w.heap.size := h.below.size
theorem HKept.link (h : HKept T base a w) (hb : base ≤ w.heap.size) (k : Below w.heap.size w w') : HKept T base a w' := h.trans (HKept.of_below k hb)
theorem hown_kept {base' : Nat} {e : TypeId} {size : Nat} {v : Value} {n : Nat} {xs : List Value} (h : w.ownsRow base' e size v n xs) (he : e ≠ T) (k : HKept T base w w') : w'.ownsRow base' e size v n xs := by
 obtain ⟨h1, h2⟩ := h
 refine ⟨h1, ?_⟩
 rcases h2 with h2 | ⟨g, cap, cur, hv, hg, hgg, r⟩
 ·exact .inl h2
 ·exact .inr ⟨g, cap, cur, hv, hg, k.other _ _ _ _ he hgg, r⟩
theorem hown_grown {size : Nat} {v : Value} {n : Nat} {xs : List Value} (h : w.ownsRow base T size v n xs) (hb : base ≤ w.heap.size) (hg : w.grownBy w' v.ownBlock) : HKept T base w w' := by
 refine ⟨(Below.refl base w).grown hg hb (hown_block_ge h), fun k cs t m ht e => (hg.block k (lt_of_block e) ?_).trans e⟩
 intro e1
 exact hown_ne h e ht e1.symm
end
/-- All blocks but two are as they were. -/
structure HBut (b c : Nat) (w w' : World) : Prop where
 os : w'.os = w.os
 tape : w'.tape = w.tape
 output : w'.output = w.output
 size : w.heap.size ≤ w'.heap.size
 block : ∀ k, k < w.heap.size → k ≠ b → k ≠ c → w'.heap[k]? = w.heap[k]?
section
variable {b c : Nat} {w w' w1 : World}
theorem HBut.refl (b c : Nat) (w : World) : HBut b c w w := ⟨rfl, rfl, rfl, Nat.le_refl _, fun _ _ _ _ => rfl⟩
theorem HBut.trans (h : HBut b c w w1) (k : HBut b c w1 w') : HBut b c w w' :=
 ⟨k.os.trans h.os, k.tape.trans h.tape, k.output.trans h.output, Nat.le_trans h.size k.size, fun i hi h1 h2 => (k.block i (Nat.lt_of_lt_of_le hi h.size) h1 h2).trans (h.block i hi h1 h2)⟩
theorem HBut.of_below (h : Below w.heap.size w w') : HBut b c w w' := ⟨h.os, h.tape, h.output, h.size, fun k hk _ _ => h.block k hk⟩
theorem HBut.link (h : HBut b c w w1) (k : Below w1.heap.size w1 w') : HBut b c w w' := h.trans (HBut.of_below k)
theorem HBut.alloc (h : HBut b c w w1) (o : Obj) : HBut b c w (w1.alloc o) := h.link ((Below.refl _ _).alloc (Nat.le_refl _) o)
theorem HBut.set (h : HBut b c w w1) {i : Nat} {u : Value} (d : Nat) (hd : d = b ∨ d = c) : HBut b c w (w1.setCell ⟨d, i, none⟩ u) :=
 h.trans ⟨rfl, rfl, rfl, by simp [World.setCell], fun k hk h1 h2 => Below.heap_setCell _ _ _ _ (by rcases hd with rfl | rfl <;> assumption)⟩
theorem HBut.keep (h : HBut b c w w') {k : Nat} {x : Obj} (h1 : k ≠ b) (h2 : k ≠ c) (e : w.heap[k]? = some x) : w'.heap[k]? = some x := (h.block k (lt_of_block e) h1 h2).trans e
theorem HBut.below (h : HBut b c w w') {B : Nat} (hB : B ≤ w.heap.size) (hb : B ≤ b) (hc : B ≤ c) : Below B w w' :=
 ⟨h.os, h.tape, h.output, h.size, fun k hk => h.block k (by omega) (by omega) (by omega)⟩
theorem hown_but {base : Nat} {e : TypeId} {size : Nat} {v : Value} {n : Nat} {xs : List Value} (h : w.ownsRow base e size v n xs) (k : HBut b c w w') (hb : v.ownBlock ≠ some b) (hc : v.ownBlock ≠ some c) : w'.ownsRow base e size v n xs := by
 obtain ⟨h1, h2⟩ := h
 refine ⟨h1, ?_⟩
 rcases h2 with h2 | ⟨g, cap, cur, hv, hg, hgg, r⟩
 ·exact .inl h2
 ·subst hv
  exact .inr ⟨g, cap, cur, rfl, hg, k.keep (by rintro rfl; exact hb rfl) (by rintro rfl; exact hc rfl) hgg, r⟩
end
theorem Row.hof_own {w : World} {base : Nat} {e : TypeId} {size n : Nat} {v : Value} {xs : List Value} (h : w.ownsRow base e size v n xs) : Row w.heap.size size w v n xs := by
 obtain ⟨a, c, rfl⟩ := hown_form h
 refine ⟨a, c, rfl, ?_, ?_, Reads.of_own h⟩
 ·rcases h.2 with ⟨e, h0⟩ | ⟨g, cap, cur, e, _, _, hc, _⟩
  ·omega
  ·injection e with _ _ e3; omega
 ·rcases h.2 with ⟨e, h0⟩ | ⟨g, cap, cur, e, _, _, hc, hm, _⟩
  ·unfold maxLen; omega
  ·omega
/-- The row's block is the one that it was, or a new one. -/
def HMoved (w : World) (v v' : Value) : Prop := v'.ownBlock = v.ownBlock ∨ ∃ g, v'.ownBlock = some g ∧ w.heap.size ≤ g
theorem happend_where {P : Program} (w : World) (base : Nat) (t ty e : TypeId) (i : TypeInfo) (z : Value) (size bytes : Nat) (ht : P.underlying t = some (.slice e)) (hi : P.info? e = some i) (hz : i.zero = some z)
  (hsize : i.size = size) (hby : i.bytes = bytes) (hzs : z.cells.size = size) (hsz : 0 < size)
  (v : Value) (n : Nat) (xs : List Value) (hown : w.ownsRow base e size v n xs)
  (a : Addr) (m c : Nat) (news : List Value) (hl : news.length = m * size) (hnews : ∀ j u, news[j]? = some u → w.cell? (a.add j) = some u) (h1 : ∀ u ∈ news, u.oneCell' = true)
  (h63 : n + m ≤ maxLen) (hbytes : (n + m) * bytes ≤ 140737488355328) {v' : Value} {w' : World}
  (hr : (Builtin.append_ #[t, t] ty #[v, .slice (some a) m c]).run P w = .ok v' w') : HMoved w v v' := by
 rcases hown.2 with ⟨rfl, rfl⟩ | ⟨g, cap, cur, rfl, hbg, hg, hnc, hcm, hcs, htake⟩
 ·have hx : xs = [] := List.eq_nil_of_length_eq_zero (by simpa using hown.1)
  subst hx
  obtain ⟨v2, w2, hr2, h2, _, _⟩ := run_append_own (P := P) w w.heap.size t ty e i z size bytes ht hi hz hsize hby hzs hsz (.slice none 0 0) 0 [] (World.ownsRow_nil _ _ _ _) a m c news hl hnews h1 h63 hbytes (Nat.le_refl _)
  rw [hr] at hr2
  injection hr2 with e1 e2
  subst e1
  rcases hb : v'.ownBlock with _ | g
  ·exact .inl hb
  ·exact .inr ⟨g, hb, hown_block_ge h2 g hb⟩
 ·by_cases hroom : n + m ≤ cap
  ·obtain ⟨w2, hr2, _⟩ := run_append_fits (P := P) w base t ty e i size ht hi hsize g n cap xs hown a m c news hl hnews h1 hroom
   rw [hr] at hr2
   injection hr2 with e1 e2
   subst e1
   exact .inl rfl
  ·subst hsize
   subst hby
   have hsmall : n + m ≤ 9223372036854775807 := by simp only [maxLen] at h63; omega
   have hr2 := run_append_grow (P := P) w t ty e i z ht hi hz ⟨g, 0, none⟩ n cap xs hown.1 (hown.cells (g := g) rfl) a m c news hl hnews (by omega) (by omega) (growslice_fits (by omega) hbytes)
   rw [hr] at hr2
   injection hr2 with e1 e2
   subst e1
   exact .inr ⟨_, rfl, Nat.le_refl _⟩
theorem hwp_append_own2 {P : Program} {w : World} {o : Oper} {a : Act} {K : Act → World → Prop} {Q : Exit → Act → World → Prop} (s x : Operand) (t : TypeId)
  (ho : o.op = .call { callee := .builtin .append, args := #[s, x], argTypes := #[t, t] })
  (base : Nat) (e : TypeId) (i : TypeInfo) (z : Value) (size bytes : Nat) (ht : P.underlying t = some (.slice e)) (hi : P.info? e = some i) (hz : i.zero = some z)
  (hsize : i.size = size) (hby : i.bytes = bytes) (hzs : z.cells.size = size) (hsz : 0 < size)
  (v : Value) (n : Nat) (xs : List Value) (hs : a.eval s = v) (hown : w.ownsRow base e size v n xs)
  (ad : Addr) (m c : Nat) (news : List Value) (hx : a.eval x = .slice (some ad) m c) (hl : news.length = m * size) (hnews : ∀ j u, news[j]? = some u → w.cell? (ad.add j) = some u) (h1 : ∀ u ∈ news, u.oneCell' = true)
  (h63 : n + m ≤ maxLen) (hbytes : (n + m) * bytes ≤ 140737488355328) (hbase : base ≤ w.heap.size)
  (h : ∀ v' w', w'.ownsRow base e size v' (n + m) (xs ++ news) → w.grownBy w' v.ownBlock → HMoved w v v' → K (a.put o.dst v') w') : o.wp P a w K Q := by
 obtain ⟨v', w', hr, h2, h3, h4⟩ := run_append_own (P := P) w base t o.type e i z size bytes ht hi hz hsize hby hzs hsz v n xs hown ad m c news hl hnews h1 h63 hbytes hbase
 have h5 := happend_where (P := P) w base t o.type e i z size bytes ht hi hz hsize hby hzs hsz v n xs hown ad m c news hl hnews h1 h63 hbytes hr
 unfold Oper.wp execOp
 simp only [ho, resolve, invoke, builtin, Sem.run_bind, Sem.run_pure, Result.andThen_ok, List.map_toArray, List.map_cons, List.map_nil, hs, hx, hr]
 exact h v' w' h2 h3 h5
theorem hwpList_append_own2 {P : Program} {w : World} {ops : Array Oper} {rest : List Oper} {o : Oper} {a : Act} {Q : Exit → Act → World → Prop} (hgd : o.guard = none) (s x : Operand) (t : TypeId)
  (ho : o.op = .call { callee := .builtin .append, args := #[s, x], argTypes := #[t, t] })
  (base : Nat) (e : TypeId) (i : TypeInfo) (z : Value) (size bytes : Nat) (ht : P.underlying t = some (.slice e)) (hi : P.info? e = some i) (hz : i.zero = some z)
  (hsize : i.size = size) (hby : i.bytes = bytes) (hzs : z.cells.size = size) (hsz : 0 < size)
  (v : Value) (n : Nat) (xs : List Value) (hs : a.eval s = v) (hown : w.ownsRow base e size v n xs)
  (ad : Addr) (m c : Nat) (news : List Value) (hx : a.eval x = .slice (some ad) m c) (hl : news.length = m * size) (hnews : ∀ j u, news[j]? = some u → w.cell? (ad.add j) = some u) (h1 : ∀ u ∈ news, u.oneCell' = true)
  (h63 : n + m ≤ maxLen) (hbytes : (n + m) * bytes ≤ 140737488355328) (hbase : base ≤ w.heap.size)
  (h : ∀ v' w', w'.ownsRow base e size v' (n + m) (xs ++ news) → w.grownBy w' v.ownBlock → HMoved w v v' → wpList P ops Q rest (a.put o.dst v') w') : wpList P ops Q (o :: rest) a w :=
 wpList_plain hgd fun _ hK => hwp_append_own2 s x t ho base e i z size bytes ht hi hz hsize hby hzs hsz v n xs hs hown ad m c news hx hl hnews h1 h63 hbytes hbase fun v' w' h2 h3 h4 => hK _ _ (h v' w' h2 h3 h4)
/-- Two rows that share no block. -/
def HSep (v u : Value) : Prop := ∀ g, v.ownBlock = some g → u.ownBlock ≠ some g
theorem HSep.nil (u : Value) : HSep (.slice none 0 0) u := fun g hg => by cases hg
theorem HSep.moved {w : World} {base : Nat} {v v' u : Value} {e : TypeId} {size n : Nat} {xs : List Value} (h : HSep v u) (hm : HMoved w v v') (hu : w.ownsRow base e size u n xs) : HSep v' u := by
 intro g hg hu'
 rcases hm with hm | ⟨g', hm, hlt⟩
 ·exact h g (hm ▸ hg) hu'
 ·rw [hm] at hg
  injection hg with hg
  subst hg
  have := (hu.lt g' hu').2
  omega
theorem hown_grown_other {w w' : World} {base : Nat} {v u : Value} {e : TypeId} {size n : Nat} {xs : List Value} (hu : w.ownsRow base e size u n xs) (hs : HSep v u) (hg : w.grownBy w' v.ownBlock) : w'.ownsRow base e size u n xs := by
 refine hu.kept hg ?_
 cases hb : u.ownBlock with
 | none => exact .inl rfl
 | some g => exact .inr fun e => hs g e.symm hb
theorem hstep_append_own2 {P : Program} {ops : Array Oper} {w : World} {o : Oper} {a : Act} {K : Act → World → Prop} {Q : Exit → Act → World → Prop} {E : Prop} (hgd : o.guard = none) (s x : Operand) (t : TypeId)
  (ho : o.op = .call { callee := .builtin .append, args := #[s, x], argTypes := #[t, t] })
  (base : Nat) (e : TypeId) (i : TypeInfo) (z : Value) (size bytes : Nat) (ht : P.underlying t = some (.slice e)) (hi : P.info? e = some i) (hz : i.zero = some z)
  (hsize : i.size = size) (hby : i.bytes = bytes) (hzs : z.cells.size = size) (hsz : 0 < size)
  (v : Value) (n : Nat) (xs : List Value) (hs : a.eval s = v) (hown : w.ownsRow base e size v n xs)
  (ad : Addr) (m c : Nat) (news : List Value) (hx : a.eval x = .slice (some ad) m c) (hl : news.length = m * size) (hnews : ∀ j u, news[j]? = some u → w.cell? (ad.add j) = some u) (h1 : ∀ u ∈ news, u.oneCell' = true)
  (h63 : n + m ≤ maxLen) (hbytes : (n + m) * bytes ≤ 140737488355328) (hbase : base ≤ w.heap.size)
  (h : ∀ v' w', w'.ownsRow base e size v' (n + m) (xs ++ news) → w.grownBy w' v.ownBlock → HMoved w v v' → K (a.put o.dst v') w') :
  if Region.wanted o (yielded ops a.tmps) = true then Oper.wp P o a w K Q else E := by
 have hw : Region.wanted o (yielded ops a.tmps) = true := by simp [Region.wanted, hgd]
 rw [if_pos hw]
 exact hwp_append_own2 s x t ho base e i z size bytes ht hi hz hsize hby hzs hsz v n xs hs hown ad m c news hx hl hnews h1 h63 hbytes hbase h
def scells (l : List ByteArray) : List Value := l.map fun s => .string s
/-- A row of texts. -/
def SRow (B : Nat) (w : World) (v : Value) (ns : List (List UInt8)) : Prop :=
 ∃ ss : List ByteArray, ss.map (fun s => s.data.toList) = ns ∧ (∀ s ∈ ss, s.size ≤ 1000000) ∧ Row B 1 w v ss.length (scells ss)
theorem SRow.keep {B : Nat} {w w' : World} {v : Value} {ns : List (List UInt8)} (h : SRow B w v ns) (hk : ∀ p : Addr, p.block < B → w'.cell? p = w.cell? p) : SRow B w' v ns := by
 obtain ⟨ss, h1, h2, h3⟩ := h
 exact ⟨ss, h1, h2, h3.keep hk⟩
theorem SRow.more {B B' : Nat} {w : World} {v : Value} {ns : List (List UInt8)} (h : SRow B w v ns) (hB : B ≤ B') : SRow B' w v ns := by
 obtain ⟨ss, h1, h2, h3⟩ := h
 exact ⟨ss, h1, h2, h3.more hB⟩
theorem SRow.length {B : Nat} {w : World} {v : Value} {ns : List (List UInt8)} (h : SRow B w v ns) : ∃ A cap, v = .slice A ns.length cap ∧ ns.length ≤ cap ∧ ns.length ≤ maxLen := by
 obtain ⟨ss, rfl, _, A, cap, e, h1, h2, _⟩ := h
 exact ⟨A, cap, by rw [e, List.length_map], by simpa using h1, by simpa using h2⟩
/-- The text at place k. -/
theorem SRow.at_ {B : Nat} {w : World} {A : Option Addr} {n cap k : Nat} {ns : List (List UInt8)} {x : List UInt8} (h : SRow B w (.slice A n cap) ns) (hk : ns[k]? = some x) :
  ∃ b o s, A = some ⟨b, o, none⟩ ∧ b < B ∧ w.cell? ⟨b, o + k, none⟩ = some (.string s) ∧ s.data.toList = x ∧ s.size ≤ 1000000 := by
 obtain ⟨ss, rfl, hz, A', cap', e, _, _, h1, h2⟩ := h
 injection e with e1 e2 e3
 subst e1
 rw [List.getElem?_map] at hk
 cases hs : ss[k]? with
 | none => rw [hs] at hk; cases hk
 | some s =>
  rw [hs] at hk
  injection hk with hk
  have hl : k < ss.length := (List.getElem?_eq_some_iff.1 hs).1
  obtain ⟨b, o, e, hb, hc⟩ := h2 (by omega)
  exact ⟨b, o, s, e, hb, hc k _ (by unfold scells; rw [List.getElem?_map, hs]; rfl), hk, hz s (List.mem_of_getElem? hs)⟩
/-- What a class in memory says of itself, but for its row of names. -/
structure Nmd (k : KC) (c : PC) : Prop where
 nm : k.name.data.toList = c.name
 nsz : k.name.size ≤ 1000000
 sp : k.super.data.toList = c.super
 ssz : k.super.size ≤ 1000000
 ifc : k.iface = c.iface
 abs : k.abs = c.abs
 at_ : k.at_ = c.at_
 few : c.ifaces.length ≤ 1000
/-- .. with its row of names, below block B. -/
structure Says (B : Nat) (k : KC) (c : PC) (w : World) : Prop where
 nmd : Nmd k c
 row : SRow B w k.ifn c.ifaces
 form : ∀ A n q, k.ifn = .slice A n q → A = none ∨ ∃ b o, A = some ⟨b, o, none⟩
theorem Says.keep {B B' : Nat} {k : KC} {c : PC} {w w' : World} (h : Says B k c w) (hB : B ≤ B') (hk : ∀ p : Addr, p.block < B → w'.cell? p = w.cell? p) : Says B' k c w' :=
 ⟨h.nmd, (h.row.keep hk).more hB, h.form⟩
/-- A row of texts that the call owns. -/
def OwnS (w : World) (base : Nat) (v : Value) (ns : List (List UInt8)) : Prop :=
 ∃ ss : List ByteArray, ss.map (fun s => s.data.toList) = ns ∧ (∀ s ∈ ss, s.size ≤ 1000000) ∧ w.ownsRow base 9 1 v ss.length (scells ss)
theorem OwnS.nil (w : World) (base : Nat) : OwnS w base (.slice none 0 0) [] := ⟨[], rfl, by simp, World.ownsRow_nil _ _ _ _⟩
theorem OwnS.row {w : World} {base : Nat} {v : Value} {ns : List (List UInt8)} (h : OwnS w base v ns) : SRow w.heap.size w v ns := by
 obtain ⟨ss, h1, h2, h3⟩ := h
 exact ⟨ss, h1, h2, Row.hof_own h3⟩
theorem own_plain {w : World} {base : Nat} {e : TypeId} {size n : Nat} {v : Value} {xs : List Value} (h : w.ownsRow base e size v n xs) : ∀ A m q, v = .slice A m q → A = none ∨ ∃ b o, A = some ⟨b, o, none⟩ := by
 intro A m q hv
 rcases h.2 with ⟨rfl, _⟩ | ⟨g, cap, cur, rfl, _⟩
 ·injection hv with h1 _ _
  exact .inl h1.symm
 ·injection hv with h1 _ _
  exact .inr ⟨g, 0, h1.symm⟩
theorem OwnS.form {w : World} {base : Nat} {v : Value} {ns : List (List UInt8)} (h : OwnS w base v ns) : ∃ a c, v = .slice a ns.length c := by
 obtain ⟨ss, rfl, h2, h3⟩ := h
 obtain ⟨a, c, e⟩ := hown_form h3
 exact ⟨a, c, by rw [e, List.length_map]⟩
theorem OwnS.below {w w' : World} {base : Nat} {v : Value} {ns : List (List UInt8)} (h : OwnS w base v ns) (hb : Below w.heap.size w w') : OwnS w' base v ns := by
 obtain ⟨ss, h1, h2, h3⟩ := h
 exact ⟨ss, h1, h2, hown_below h3 hb⟩
/-- All blocks of cells are as they were, but those of a type T and the blocks b, c. -/
structure Ex (T : TypeId) (b c : Nat) (w w' : World) : Prop where
 os : w'.os = w.os
 tape : w'.tape = w.tape
 output : w'.output = w.output
 size : w.heap.size ≤ w'.heap.size
 block : ∀ (k : Nat) (cs : Array Value) (t : TypeId) (m : Nat × Nat), t ≠ T → k ≠ b → k ≠ c → w.heap[k]? = some (.cells cs t m) → w'.heap[k]? = some (.cells cs t m)
theorem Ex.refl (T : TypeId) (b c : Nat) (w : World) : Ex T b c w w := ⟨rfl, rfl, rfl, Nat.le_refl _, fun _ _ _ _ _ _ _ h => h⟩
theorem Ex.trans {T : TypeId} {b c : Nat} {w w1 w' : World} (h : Ex T b c w w1) (k : Ex T b c w1 w') : Ex T b c w w' :=
 ⟨k.os.trans h.os, k.tape.trans h.tape, k.output.trans h.output, Nat.le_trans h.size k.size, fun i cs t m ht h1 h2 e => k.block i cs t m ht h1 h2 (h.block i cs t m ht h1 h2 e)⟩
theorem Ex.of_below {T : TypeId} {b c : Nat} {w w' : World} (h : Below w.heap.size w w') : Ex T b c w w' := ⟨h.os, h.tape, h.output, h.size, fun k cs t m _ _ _ e => (h.block k (lt_of_block e)).trans e⟩
theorem Ex.kept {T : TypeId} {base b c : Nat} {w w' : World} (h : HKept T base w w') : Ex T b c w w' := ⟨h.below.os, h.below.tape, h.below.output, h.below.size, fun k cs t m ht _ _ e => h.other k cs t m ht e⟩
theorem Ex.set {T : TypeId} {b c : Nat} {w : World} {d i : Nat} {u : Value} (hd : d = b ∨ d = c) : Ex T b c w (w.setCell ⟨d, i, none⟩ u) :=
 ⟨rfl, rfl, rfl, by simp [World.setCell], fun k cs t m _ h1 h2 e => (Below.heap_setCell _ _ _ _ (by rcases hd with rfl | rfl <;> assumption)).trans e⟩
theorem Ex.drew {T : TypeId} {b c : Nat} {w w' : World} (h : Ex T b c w w') : Ex T b c w w'.drew := ⟨h.os, h.tape, h.output, h.size, h.block⟩
theorem Ex.drewN {T : TypeId} {b c : Nat} {w w' : World} (h : Ex T b c w w') (n : Nat) : Ex T b c w (w'.drewN n) := ⟨h.os, h.tape, h.output, h.size, h.block⟩
theorem Ex.kat {T : TypeId} {b c q : Nat} {w w' : World} {k : KC} (h : Ex T b c w w') (hT : (116 : TypeId) ≠ T) (h1 : q ≠ b) (h2 : q ≠ c) (hk : KAt q k w) : KAt q k w' := h.block _ _ _ _ hT h1 h2 hk
theorem Ex.own {T : TypeId} {b c base : Nat} {w w' : World} {e : TypeId} {size : Nat} {v : Value} {n : Nat} {xs : List Value} (h : Ex T b c w w') (he : e ≠ T) (h1 : v.ownBlock ≠ some b) (h2 : v.ownBlock ≠ some c) (ho : w.ownsRow base e size v n xs) : w'.ownsRow base e size v n xs := by
 obtain ⟨q1, q2⟩ := ho
 refine ⟨q1, ?_⟩
 rcases q2 with q2 | ⟨g, cap, cur, hv, hg, hgg, r⟩
 ·exact .inl q2
 ·subst hv
  exact .inr ⟨g, cap, cur, rfl, hg, h.block _ _ _ _ he (fun e => h1 (by simp [Value.ownBlock, e])) (fun e => h2 (by simp [Value.ownBlock, e])) hgg, r⟩
/-- Where the interfaces of a class stand. -/
def ifs (cs : List PC) (i : Nat) : List Nat := match cs[i]? with
 | none => []
 | some c => c.ifaces.filterMap (ix cs)
theorem ifs_at {cs : List PC} {i : Nat} {c : PC} (h : cs[i]? = some c) : ifs cs i = c.ifaces.filterMap (ix cs) := by unfold ifs; simp only [h]
theorem sup_at {cs : List PC} {i : Nat} {c : PC} (h : cs[i]? = some c) : sup cs i = ix cs c.super := by unfold sup; simp only [h]
theorem dir_up {cs : List PC} {x j : Nat} (hx : x < cs.length) : Dir (sup cs) (ifs cs) x j ↔ Up cs x j := by
 have hc := List.getElem?_eq_getElem hx
 generalize cs[x] = c at hc
 unfold Dir
 rw [sup_at hc, ifs_at hc]
 constructor
 ·rintro (h | h)
  ·exact ⟨c, hc, .inl h⟩
  ·obtain ⟨nm, h1, h2⟩ := List.mem_filterMap.1 h
   exact ⟨c, hc, .inr ⟨nm, h1, h2⟩⟩
 ·rintro ⟨d, hd, h⟩
  rw [hc] at hd; cases hd
  rcases h with h | ⟨nm, h1, h2⟩
  ·exact .inl h
  ·exact .inr (List.mem_filterMap.2 ⟨nm, h1, h2⟩)
theorem filterMap_all {α β : Type} {f : α → Option β} : ∀ {l : List α}, (∀ x ∈ l, ∃ y, f x = some y) → (l.filterMap f).map some = l.map f
 | [], _ => rfl
 | x :: l, h => by
  obtain ⟨y, hy⟩ := h x (by simp)
  rw [List.filterMap_cons, hy]
  simp only [List.map_cons]
  rw [hy, filterMap_all fun z hz => h z (List.mem_cons_of_mem _ hz)]
/-- The pointers to the classes of a table, in their order. -/
def ptrs (cl : Nat → Nat) (n : Nat) : List Value := (List.range n).map fun j => ptrV cl (some j)
theorem ptrs_at (cl : Nat → Nat) {n j : Nat} (h : j < n) : (ptrs cl n)[j]? = some (.pointer (some ⟨cl j, 0, none⟩)) := by
 unfold ptrs
 rw [List.getElem?_map, List.getElem?_range h]
 rfl
/-- A table at block tb: its classes cs, of which those from ow on are its own; all of it below block B. -/
structure HT (B tb mb : Nat) (A : Option Addr) (cap ow : Nat) (cs : List PC) (cl sl : Nat → Nat) (S : Nat → List Nat) (w : World) : Prop where
 good : Good cs
 hB : B ≤ w.heap.size
 tlt : tb < B
 mlt : mb < B
 clt : ∀ i, i < cs.length → cl i < B
 slt : ∀ i, i < cs.length → sl i < B
 t0 : w.heap[tb]? = some (.cells #[.slice A cs.length cap, .map (some mb), .int .i64 (ow : Int)] 112 (0, 0))
 map : TMap mb cs cl w
 all : Row B 1 w (.slice A cs.length cap) cs.length (ptrs cl cs.length)
 tab : Tab B cs.length cs.length cl sl (sup cs) (ifs cs) S w
 exact : ∀ i, i < cs.length → ∀ k, bit (S i) k = true ↔ Abv cs i k
 says : ∀ i c, cs[i]? = some c → ∃ k, KAt (cl i) k w ∧ Says B k c w
 own : ow ≤ cs.length
 off : ∀ i k, i < cs.length → KAt (cl i) k w → ∀ b o q p, k.ifs = .slice (some ⟨b, o, none⟩) q p → b < B ∧ ∀ j, j < cs.length → cl j ≠ b
section
variable {B tb mb cap ow : Nat} {A : Option Addr} {cs : List PC} {cl sl : Nat → Nat} {S : Nat → List Nat} {w w' : World}
theorem HT.below (h : HT B tb mb A cap ow cs cl sl S w) (hb : Below B w w') : HT B tb mb A cap ow cs cl sl S w' := by
 have blk : ∀ b, b < B → w'.heap[b]? = w.heap[b]? := fun b hb' => hb.block b hb'
 have cell : ∀ p : Addr, p.block < B → w'.cell? p = w.cell? p := fun p hp => hb.cell hp
 refine ⟨h.good, Nat.le_trans h.hB hb.size, h.tlt, h.mlt, h.clt, h.slt, (blk _ h.tlt).trans h.t0, h.map.same (blk _ h.mlt), h.all.keep cell, ?_, h.exact, ?_, h.own, fun i k hi hk => h.off i k hi (by unfold KAt at hk ⊢; rw [← blk _ (h.clt i hi)]; exact hk)⟩
 ·have T := h.tab
  exact ⟨T.few, fun i hi => by
   obtain ⟨k, h1, h2, h3, h4, h5⟩ := T.cls i hi
   exact ⟨k, (blk _ (h.clt i hi)).trans h1, h2, h3, h4.keep cell, h5⟩, fun i hi => ⟨(blk _ (h.slt i hi)).trans (T.sets i hi).row, (T.sets i hi).word, (T.sets i hi).few⟩, T.inj, T.low, T.upn, T.ifn, T.wide, T.len⟩
 ·intro i c hc
  obtain ⟨k, h1, h2⟩ := h.says i c hc
  exact ⟨k, (blk _ (h.clt i (List.getElem?_eq_some_iff.1 hc).1)).trans h1, h2.keep (Nat.le_refl _) cell⟩
/-- A class by its place: its cells, its links and its set. -/
theorem HT.cls (h : HT B tb mb A cap ow cs cl sl S w) {i : Nat} {c : PC} (hc : cs[i]? = some c) :
  ∃ k, KAt (cl i) k w ∧ Says B k c w ∧ k.place = i ∧ k.up = ptrV cl (ix cs c.super) ∧ k.above = .slice (some ⟨sl i, 0, none⟩) (S i).length (S i).length ∧ SetAt (sl i) (S i) w := by
 have hi : i < cs.length := (List.getElem?_eq_some_iff.1 hc).1
 obtain ⟨k, h1, h2⟩ := h.says i c hc
 obtain ⟨l, l1, l2, l3, l4, l5⟩ := h.tab.cls i hi
 have e : ∀ q, k.cells[q]? = l.cells[q]? := fun q => by rw [← h1.cell q, l1.cell q]
 have e7 := e 7
 have e8 := e 8
 have e10 := e 10
 simp only [KC.cells, List.getElem?_cons_succ, List.getElem?_cons_zero, Option.some.injEq, Value.int.injEq, true_and] at e7 e8 e10
 exact ⟨k, h1, h2, by omega, by rw [e8, l3, sup_at hc], by rw [e10, l5], h.tab.sets i hi⟩
end
/-- A table that is being made at block nb: its classes cs at the blocks cl; the first o are another table's. -/
structure AT (base nb mb o : Nat) (cs : List PC) (cl : Nat → Nat) (w : World) : Prop where
 few : cs.length ≤ 1000
 blt : base ≤ w.heap.size
 nge : base ≤ nb
 mge : base ≤ mb
 map : TMap mb cs cl w
 t0 : ∃ v, w.heap[nb]? = some (.cells #[v, .map (some mb), .int .i64 (o : Int)] 112 (0, 0)) ∧ w.ownsRow base 108 1 v cs.length (ptrs cl cs.length)
theorem ptrs_put (cl : Nat → Nat) (n b : Nat) : ptrs (put2 cl n b) (n + 1) = ptrs cl n ++ [.pointer (some ⟨b, 0, none⟩)] := by
 unfold ptrs
 rw [List.range_succ, List.map_append]
 congr 1
 ·apply List.map_congr_left
  intro j hj
  have := List.mem_range.1 hj
  simp only [ptrV]
  rw [put2_ne _ _ (by omega)]
 ·simp [ptrV, put2_self]
theorem ix_put {cs : List PC} {cl : Nat → Nat} {b : Nat} {i : Nat} (h : i < cs.length) : put2 cl cs.length b i = cl i := put2_ne _ _ (by omega)
/-- The class's cells with another place. -/
def KC.at (k : KC) (n : Nat) : KC := { k with place := n }
section
variable {base nb mb o : Nat} {cs : List PC} {cl : Nat → Nat} {w w' : World}
theorem AT.nlt (h : AT base nb mb o cs cl w) : nb < w.heap.size := by
 obtain ⟨v, h1, _⟩ := h.t0
 exact lt_of_block h1
/-- Nothing of it is turned. -/
theorem AT.below (h : AT base nb mb o cs cl w) (hb : Below w.heap.size w w') : AT base nb mb o cs cl w' := by
 obtain ⟨v, h1, h2⟩ := h.t0
 exact ⟨h.few, Nat.le_trans h.blt hb.size, h.nge, h.mge, h.map.same (hb.block mb h.map.lt), v, (hb.block nb (lt_of_block h1)).trans h1, hown_below h2 hb⟩
theorem AT.drewN (h : AT base nb mb o cs cl w) (n : Nat) : AT base nb mb o cs cl (w.drewN n) := ⟨h.few, h.blt, h.nge, h.mge, h.map, h.t0⟩
end
/-- The links of a class. -/
structure Links (base : Nat) (cs : List PC) (cl : Nat → Nat) (i : Nat) (k : KC) (w : World) : Prop where
 up : k.up = ptrV cl (sup cs i)
 ifs : w.ownsRow base 108 1 k.ifs (ifs cs i).length ((ifs cs i).map fun j => ptrV cl (some j))
/-- The own classes of a table that is being made, from o on: the first m of them are linked. -/
structure Lnk (base o m : Nat) (cs : List PC) (cl : Nat → Nat) (w : World) : Prop where
 low : ∀ i, o ≤ i → i < cs.length → base ≤ cl i
 inj : ∀ i j, o ≤ i → o ≤ j → i < cs.length → j < cs.length → cl i = cl j → i = j
 cls : ∀ i c, o ≤ i → cs[i]? = some c → ∃ k, KAt (cl i) k w ∧ k.place = i ∧ Nmd k c ∧ OwnS w base k.ifn c.ifaces ∧ k.above = .slice none 0 0 ∧ (i < o + m → Links base cs cl i k w) ∧ (o + m ≤ i → k.up = .pointer none ∧ k.ifs = .slice none 0 0)
section
variable {base nb mb o m : Nat} {cs : List PC} {cl : Nat → Nat} {w w' : World}
theorem Lnk.none (base : Nat) (cs : List PC) (cl : Nat → Nat) (w : World) : Lnk base cs.length 0 cs cl w :=
 ⟨fun i h1 h2 => absurd h2 (by omega), fun i j h1 _ h2 => absurd h2 (by omega), fun i c h1 h2 => absurd (List.getElem?_eq_some_iff.1 h2).1 (by omega)⟩
theorem Lnk.below (h : Lnk base o m cs cl w) (hb : Below w.heap.size w w') : Lnk base o m cs cl w' :=
 ⟨h.low, h.inj, fun i c h1 h2 => by
  obtain ⟨k, k1, k2, k3, k4, k5, k6, k7⟩ := h.cls i c h1 h2
  exact ⟨k, (hb.block _ (lt_of_block k1)).trans k1, k2, k3, k4.below hb, k5, fun h => ⟨(k6 h).up, hown_below (k6 h).ifs hb⟩, k7⟩⟩
theorem Lnk.drewN (h : Lnk base o m cs cl w) (n : Nat) : Lnk base o m cs cl (w.drewN n) :=
 ⟨h.low, h.inj, fun i c h1 h2 => by
  obtain ⟨k, k1, k2, k3, k4, k5, k6, k7⟩ := h.cls i c h1 h2
  exact ⟨k, k1, k2, k3, k4, k5, fun h => ⟨(k6 h).up, (k6 h).ifs⟩, k7⟩⟩
end
end Go.Proofs.YtmaknddlgppinaaGreatDoor
