/-
  CUT and joined from the texts of this seat: Hr Ha Hb Hd Hv
-/
import Derived.Test.YtmaknddlgppinaaGreatDoorX01
import Derived.Test.YtmaknddlgppinaaGreatDoorRows
import Derived.Test.YtmaknddlgppinaaGreatDoorX02
import Derived.Test.YtmaknddlgppinaaGreatDoorX03
import Derived.WalkKit
import Derived.WalkSpells
import Derived.WalkLawsBesides
import Derived.Below
import Derived.BigQuiet
import Derived.OneCell
import Derived.Laws.OwnMore
import Derived.Deep.AppendLies
import Derived.Deep.Draws
import Derived.Lib.Hide
import Derived.LoopN
import Derived.RegionTactic
import Derived.Deep.RegionWith
import Derived.Shelf.Strconv.Clone
import Derived.Shelf.SlMaps.Copy
import Derived.Shelf.SlicesE.Clone
set_option linter.unusedVariables false
set_option linter.unusedSimpArgs false
/-! Hr -/
namespace Go.Proofs.YtmaknddlgppinaaGreatDoor
open Go.RowKit

theorem Below.hlink {a b c : World} (h : Below a.heap.size a b) (k : Below b.heap.size b c) : Below a.heap.size a c := h.trans (k.mono h.size)
theorem hheap_new (w : World) (o : Obj) : (w.alloc o).heap[w.heap.size]? = some o := by
  show (w.heap.push o)[w.heap.size]? = _
  simp
theorem hheap_alloc_lt {w : World} {o : Obj} {k : Nat} {x : Obj} (h : w.heap[k]? = some x) : (w.alloc o).heap[k]? = some x := (Below.heap_alloc _ _ _ (lt_of_block h)).trans h
theorem hheap_set_ne {w : World} {a : Addr} {u : Value} {k : Nat} {x : Obj} (hk : k ≠ a.block) (h : w.heap[k]? = some x) : (w.setCell a u).heap[k]? = some x := (Below.heap_setCell _ _ _ _ hk).trans h
theorem hnew_cells (w : World) (cs : List Value) (t : TypeId) : ∀ j u, cs[j]? = some u → (w.alloc (.cells cs.toArray t)).cell? (({ block := w.heap.size, off := 0 } : Addr).add j) = some u := by
  intro j u h
  rw [plain_add]
  have := World.cell?_alloc_mark w cs.toArray t (0, 0) j
  rw [Nat.zero_add, this]
  simpa using h
theorem hown_below {w w' : World} {base : Nat} {e : TypeId} {size : Nat} {v : Value} {n : Nat} {xs : List Value} (own : w.ownsRow base e size v n xs) (h : Below w.heap.size w w') : w'.ownsRow base e size v n xs :=
  own.kept (row := none) ⟨h.os, h.tape, h.output, h.size, fun k hk _ => h.block k hk⟩ (by
    cases hv : v.ownBlock with
    | none => exact .inl rfl
    | some g => exact .inr (by simp))
theorem hown_form {w : World} {base : Nat} {t : TypeId} {s : Nat} {v : Value} {n : Nat} {xs : List Value} (h : w.ownsRow base t s v n xs) : ∃ a c, v = .slice a n c := by
  rcases h.2 with ⟨rfl, h0⟩ | ⟨g, cap, cur, rfl, hr⟩
  · exact ⟨_, _, by rw [h0]⟩
  · exact ⟨_, _, rfl⟩
theorem hown_ne {w : World} {base : Nat} {e : TypeId} {size : Nat} {v : Value} {n : Nat} {xs : List Value} (h : w.ownsRow base e size v n xs) {q : Nat} {cs : Array Value} {t : TypeId} {m : Nat × Nat} (hq : w.heap[q]? = some (.cells cs t m)) (ht : t ≠ e) : v.ownBlock ≠ some q := by
  rcases h.2 with ⟨rfl, _⟩ | ⟨g, cap, cur, rfl, _, hgg, _⟩
  · simp [Value.ownBlock]
  · intro e1
    simp [Value.ownBlock] at e1
    subst e1
    rw [hgg] at hq
    simp only [Option.some.injEq, Obj.cells.injEq] at hq
    exact ht hq.2.1.symm
theorem hown_block_ge {w : World} {base : Nat} {e : TypeId} {size : Nat} {v : Value} {n : Nat} {xs : List Value} (h : w.ownsRow base e size v n xs) : ∀ k, v.ownBlock = some k → base ≤ k := by
  intro k hk
  rcases h.2 with ⟨rfl, _⟩ | ⟨g, cap, cur, rfl, hb, _⟩
  · cases hk
  · injection hk with hk
    subst hk
    exact hb
theorem hown_mono {w : World} {base base' : Nat} {e : TypeId} {size : Nat} {v : Value} {n : Nat} {xs : List Value} (h : w.ownsRow base e size v n xs) (hb : base' ≤ base) : w.ownsRow base' e size v n xs := by
  obtain ⟨h1, h2⟩ := h
  refine ⟨h1, ?_⟩
  rcases h2 with h2 | ⟨g, cap, cur, hv, hg, r⟩
  · exact .inl h2
  · exact .inr ⟨g, cap, cur, hv, Nat.le_trans hb hg, r⟩
/-- A slice that was just laid, full. -/
theorem hown_new {w : World} {b base : Nat} {e : TypeId} {size n : Nat} {cs : List Value} (h : w.heap[b]? = some (.cells cs.toArray e (0, 0))) (hb : base ≤ b) (hl : cs.length = n * size) (hn : n ≤ maxLen) : w.ownsRow base e size (.slice (some ⟨b, 0, none⟩) n n) n cs :=
  ⟨hl, .inr ⟨b, n, cs.toArray, rfl, hb, h, Nat.le_refl _, hn, by simp [hl], by simp [← hl]⟩⟩
/-- Below block 'base' all is as it was; so is each block that holds no cells of type T, wherever it lies. -/
structure HKept (T : TypeId) (base : Nat) (w w' : World) : Prop where
  below : Below base w w'
  other : ∀ (k : Nat) (cs : Array Value) (t : TypeId) (m : Nat × Nat), t ≠ T → w.heap[k]? = some (.cells cs t m) → w'.heap[k]? = some (.cells cs t m)
section
variable {T : TypeId} {base : Nat} {a b c w w' : World}
theorem HKept.refl (T : TypeId) (base : Nat) (w : World) : HKept T base w w := ⟨Below.refl _ _, fun _ _ _ _ _ h => h⟩
theorem HKept.trans (h : HKept T base a b) (k : HKept T base b c) : HKept T base a c := ⟨h.below.trans k.below, fun i cs t m ht e => k.other i cs t m ht (h.other i cs t m ht e)⟩
theorem HKept.of_below (h : Below w.heap.size w w') (hb : base ≤ w.heap.size) : HKept T base w w' := ⟨h.mono hb, fun k cs t m _ e => (h.block k (lt_of_block e)).trans e⟩
theorem HKept.alloc (h : HKept T base a w) (hB : base ≤ w.heap.size) (o : Obj) : HKept T base a (w.alloc o) := h.trans (HKept.of_below ((Below.refl _ _).alloc (Nat.le_refl _) o) hB)
theorem HKept.drew (h : HKept T base a w) : HKept T base a w.drew := ⟨h.below.drew, h.other⟩
theorem HKept.size (h : HKept T base a w) : a.heap.size ≤ w.heap.size := h.below.size
theorem HKept.link (h : HKept T base a w) (hb : base ≤ w.heap.size) (k : Below w.heap.size w w') : HKept T base a w' := h.trans (HKept.of_below k hb)
end
/-- All blocks but two are as they were. -/
structure HBut (b c : Nat) (w w' : World) : Prop where
  os : w'.os = w.os
  tape : w'.tape = w.tape
  output : w'.output = w.output
  size : w.heap.size ≤ w'.heap.size
  block : ∀ k, k < w.heap.size → k ≠ b → k ≠ c → w'.heap[k]? = w.heap[k]?
section
variable {b c : Nat} {w w' w1 : World}
theorem HBut.refl (b c : Nat) (w : World) : HBut b c w w := ⟨rfl, rfl, rfl, Nat.le_refl _, fun _ _ _ _ => rfl⟩
theorem HBut.trans (h : HBut b c w w1) (k : HBut b c w1 w') : HBut b c w w' :=
  ⟨k.os.trans h.os, k.tape.trans h.tape, k.output.trans h.output, Nat.le_trans h.size k.size, fun i hi h1 h2 => (k.block i (Nat.lt_of_lt_of_le hi h.size) h1 h2).trans (h.block i hi h1 h2)⟩
theorem HBut.of_below (h : Below w.heap.size w w') : HBut b c w w' := ⟨h.os, h.tape, h.output, h.size, fun k hk _ _ => h.block k hk⟩
theorem HBut.link (h : HBut b c w w1) (k : Below w1.heap.size w1 w') : HBut b c w w' := h.trans (HBut.of_below k)
theorem HBut.alloc (h : HBut b c w w1) (o : Obj) : HBut b c w (w1.alloc o) := h.link ((Below.refl _ _).alloc (Nat.le_refl _) o)
theorem HBut.set (h : HBut b c w w1) {i : Nat} {u : Value} (d : Nat) (hd : d = b ∨ d = c) : HBut b c w (w1.setCell ⟨d, i, none⟩ u) :=
  h.trans ⟨rfl, rfl, rfl, by simp [World.setCell], fun k hk h1 h2 => Below.heap_setCell _ _ _ _ (by rcases hd with rfl | rfl <;> assumption)⟩
theorem HBut.keep (h : HBut b c w w') {k : Nat} {x : Obj} (h1 : k ≠ b) (h2 : k ≠ c) (e : w.heap[k]? = some x) : w'.heap[k]? = some x := (h.block k (lt_of_block e) h1 h2).trans e
theorem HBut.below (h : HBut b c w w') {B : Nat} (hB : B ≤ w.heap.size) (hb : B ≤ b) (hc : B ≤ c) : Below B w w' :=
  ⟨h.os, h.tape, h.output, h.size, fun k hk => h.block k (by omega) (by omega) (by omega)⟩
theorem hown_but {base : Nat} {e : TypeId} {size : Nat} {v : Value} {n : Nat} {xs : List Value} (h : w.ownsRow base e size v n xs) (k : HBut b c w w') (hb : v.ownBlock ≠ some b) (hc : v.ownBlock ≠ some c) : w'.ownsRow base e size v n xs := by
  obtain ⟨h1, h2⟩ := h
  refine ⟨h1, ?_⟩
  rcases h2 with h2 | ⟨g, cap, cur, hv, hg, hgg, r⟩
  · exact .inl h2
  · subst hv
    exact .inr ⟨g, cap, cur, rfl, hg, k.keep (by rintro rfl; exact hb rfl) (by rintro rfl; exact hc rfl) hgg, r⟩
end
theorem Row.hof_own {w : World} {base : Nat} {e : TypeId} {size n : Nat} {v : Value} {xs : List Value} (h : w.ownsRow base e size v n xs) : Row w.heap.size size w v n xs := by
  obtain ⟨a, c, rfl⟩ := hown_form h
  refine ⟨a, c, rfl, ?_, ?_, Reads.of_own h⟩
  · rcases h.2 with ⟨e, h0⟩ | ⟨g, cap, cur, e, _, _, hc, _⟩
    · omega
    · injection e with _ _ e3; omega
  · rcases h.2 with ⟨e, h0⟩ | ⟨g, cap, cur, e, _, _, hc, hm, _⟩
    · unfold maxLen; omega
    · omega
/-- The row's block is the one that it was, or a new one. -/
def HMoved (w : World) (v v' : Value) : Prop := v'.ownBlock = v.ownBlock ∨ ∃ g, v'.ownBlock = some g ∧ w.heap.size ≤ g
theorem happend_where {P : Program} (w : World) (base : Nat) (t ty e : TypeId) (i : TypeInfo) (z : Value) (size bytes : Nat) (ht : P.underlying t = some (.slice e)) (hi : P.info? e = some i) (hz : i.zero = some z)
    (hsize : i.size = size) (hby : i.bytes = bytes) (hzs : z.cells.size = size) (hsz : 0 < size)
    (v : Value) (n : Nat) (xs : List Value) (hown : w.ownsRow base e size v n xs)
    (a : Addr) (m c : Nat) (news : List Value) (hl : news.length = m * size) (hnews : ∀ j u, news[j]? = some u → w.cell? (a.add j) = some u) (h1 : ∀ u ∈ news, u.oneCell' = true)
    (h63 : n + m ≤ maxLen) (hbytes : (n + m) * bytes ≤ 140737488355328) {v' : Value} {w' : World}
    (hr : (Builtin.append_ #[t, t] ty #[v, .slice (some a) m c]).run P w = .ok v' w') : HMoved w v v' := by
  rcases hown.2 with ⟨rfl, rfl⟩ | ⟨g, cap, cur, rfl, hbg, hg, hnc, hcm, hcs, htake⟩
  · have hx : xs = [] := List.eq_nil_of_length_eq_zero (by simpa using hown.1)
    subst hx
    obtain ⟨v2, w2, hr2, h2, _, _⟩ := run_append_own (P := P) w w.heap.size t ty e i z size bytes ht hi hz hsize hby hzs hsz (.slice none 0 0) 0 [] (World.ownsRow_nil _ _ _ _) a m c news hl hnews h1 h63 hbytes (Nat.le_refl _)
    rw [hr] at hr2
    injection hr2 with e1 e2
    subst e1
    rcases hb : v'.ownBlock with _ | g
    · exact .inl hb
    · exact .inr ⟨g, hb, hown_block_ge h2 g hb⟩
  · by_cases hroom : n + m ≤ cap
    · obtain ⟨w2, hr2, _⟩ := run_append_fits (P := P) w base t ty e i size ht hi hsize g n cap xs hown a m c news hl hnews h1 hroom
      rw [hr] at hr2
      injection hr2 with e1 e2
      subst e1
      exact .inl rfl
    · subst hsize
      subst hby
      have hsmall : n + m ≤ 9223372036854775807 := by simp only [maxLen] at h63; omega
      have hr2 := run_append_grow (P := P) w t ty e i z ht hi hz ⟨g, 0, none⟩ n cap xs hown.1 (hown.cells (g := g) rfl) a m c news hl hnews (by omega) (by omega) (growslice_fits (by omega) hbytes)
      rw [hr] at hr2
      injection hr2 with e1 e2
      subst e1
      exact .inr ⟨_, rfl, Nat.le_refl _⟩
theorem hwp_append_own2 {P : Program} {w : World} {o : Oper} {a : Act} {K : Act → World → Prop} {Q : Exit → Act → World → Prop} (s x : Operand) (t : TypeId)
    (ho : o.op = .call { callee := .builtin .append, args := #[s, x], argTypes := #[t, t] })
    (base : Nat) (e : TypeId) (i : TypeInfo) (z : Value) (size bytes : Nat) (ht : P.underlying t = some (.slice e)) (hi : P.info? e = some i) (hz : i.zero = some z)
    (hsize : i.size = size) (hby : i.bytes = bytes) (hzs : z.cells.size = size) (hsz : 0 < size)
    (v : Value) (n : Nat) (xs : List Value) (hs : a.eval s = v) (hown : w.ownsRow base e size v n xs)
    (ad : Addr) (m c : Nat) (news : List Value) (hx : a.eval x = .slice (some ad) m c) (hl : news.length = m * size) (hnews : ∀ j u, news[j]? = some u → w.cell? (ad.add j) = some u) (h1 : ∀ u ∈ news, u.oneCell' = true)
    (h63 : n + m ≤ maxLen) (hbytes : (n + m) * bytes ≤ 140737488355328) (hbase : base ≤ w.heap.size)
    (h : ∀ v' w', w'.ownsRow base e size v' (n + m) (xs ++ news) → w.grownBy w' v.ownBlock → HMoved w v v' → K (a.put o.dst v') w') : o.wp P a w K Q := by
  obtain ⟨v', w', hr, h2, h3, h4⟩ := run_append_own (P := P) w base t o.type e i z size bytes ht hi hz hsize hby hzs hsz v n xs hown ad m c news hl hnews h1 h63 hbytes hbase
  have h5 := happend_where (P := P) w base t o.type e i z size bytes ht hi hz hsize hby hzs hsz v n xs hown ad m c news hl hnews h1 h63 hbytes hr
  unfold Oper.wp execOp
  simp only [ho, resolve, invoke, builtin, Sem.run_bind, Sem.run_pure, Result.andThen_ok, List.map_toArray, List.map_cons, List.map_nil, hs, hx, hr]
  exact h v' w' h2 h3 h5
theorem hwpList_append_own2 {P : Program} {w : World} {ops : Array Oper} {rest : List Oper} {o : Oper} {a : Act} {Q : Exit → Act → World → Prop} (hgd : o.guard = none) (s x : Operand) (t : TypeId)
    (ho : o.op = .call { callee := .builtin .append, args := #[s, x], argTypes := #[t, t] })
    (base : Nat) (e : TypeId) (i : TypeInfo) (z : Value) (size bytes : Nat) (ht : P.underlying t = some (.slice e)) (hi : P.info? e = some i) (hz : i.zero = some z)
    (hsize : i.size = size) (hby : i.bytes = bytes) (hzs : z.cells.size = size) (hsz : 0 < size)
    (v : Value) (n : Nat) (xs : List Value) (hs : a.eval s = v) (hown : w.ownsRow base e size v n xs)
    (ad : Addr) (m c : Nat) (news : List Value) (hx : a.eval x = .slice (some ad) m c) (hl : news.length = m * size) (hnews : ∀ j u, news[j]? = some u → w.cell? (ad.add j) = some u) (h1 : ∀ u ∈ news, u.oneCell' = true)
    (h63 : n + m ≤ maxLen) (hbytes : (n + m) * bytes ≤ 140737488355328) (hbase : base ≤ w.heap.size)
    (h : ∀ v' w', w'.ownsRow base e size v' (n + m) (xs ++ news) → w.grownBy w' v.ownBlock → HMoved w v v' → wpList P ops Q rest (a.put o.dst v') w') : wpList P ops Q (o :: rest) a w :=
  wpList_plain hgd fun _ hK => hwp_append_own2 s x t ho base e i z size bytes ht hi hz hsize hby hzs hsz v n xs hs hown ad m c news hx hl hnews h1 h63 hbytes hbase fun v' w' h2 h3 h4 => hK _ _ (h v' w' h2 h3 h4)
theorem hstep_append_own2 {P : Program} {ops : Array Oper} {w : World} {o : Oper} {a : Act} {K : Act → World → Prop} {Q : Exit → Act → World → Prop} {E : Prop} (hgd : o.guard = none) (s x : Operand) (t : TypeId)
    (ho : o.op = .call { callee := .builtin .append, args := #[s, x], argTypes := #[t, t] })
    (base : Nat) (e : TypeId) (i : TypeInfo) (z : Value) (size bytes : Nat) (ht : P.underlying t = some (.slice e)) (hi : P.info? e = some i) (hz : i.zero = some z)
    (hsize : i.size = size) (hby : i.bytes = bytes) (hzs : z.cells.size = size) (hsz : 0 < size)
    (v : Value) (n : Nat) (xs : List Value) (hs : a.eval s = v) (hown : w.ownsRow base e size v n xs)
    (ad : Addr) (m c : Nat) (news : List Value) (hx : a.eval x = .slice (some ad) m c) (hl : news.length = m * size) (hnews : ∀ j u, news[j]? = some u → w.cell? (ad.add j) = some u) (h1 : ∀ u ∈ news, u.oneCell' = true)
    (h63 : n + m ≤ maxLen) (hbytes : (n + m) * bytes ≤ 140737488355328) (hbase : base ≤ w.heap.size)
    (h : ∀ v' w', w'.ownsRow base e size v' (n + m) (xs ++ news) → w.grownBy w' v.ownBlock → HMoved w v v' → K (a.put o.dst v') w') :
    if Region.wanted o (yielded ops a.tmps) = true then Oper.wp P o a w K Q else E := by
  have hw : Region.wanted o (yielded ops a.tmps) = true := by simp [Region.wanted, hgd]
  rw [if_pos hw]
  exact hwp_append_own2 s x t ho base e i z size bytes ht hi hz hsize hby hzs hsz v n xs hs hown ad m c news hx hl hnews h1 h63 hbytes hbase h
end Go.Proofs.YtmaknddlgppinaaGreatDoor
/-! Ha -/
namespace Go.Proofs.YtmaknddlgppinaaGreatDoor
open Go.RowKit

def scells (l : List ByteArray) : List Value := l.map fun s => .string s
/-- A row of texts. -/
def SRow (B : Nat) (w : World) (v : Value) (ns : List (List UInt8)) : Prop :=
  ∃ ss : List ByteArray, ss.map (fun s => s.data.toList) = ns ∧ (∀ s ∈ ss, s.size ≤ 1000000) ∧ Row B 1 w v ss.length (scells ss)
theorem SRow.keep {B : Nat} {w w' : World} {v : Value} {ns : List (List UInt8)} (h : SRow B w v ns) (hk : ∀ p : Addr, p.block < B → w'.cell? p = w.cell? p) : SRow B w' v ns := by
  obtain ⟨ss, h1, h2, h3⟩ := h
  exact ⟨ss, h1, h2, h3.keep hk⟩
theorem SRow.more {B B' : Nat} {w : World} {v : Value} {ns : List (List UInt8)} (h : SRow B w v ns) (hB : B ≤ B') : SRow B' w v ns := by
  obtain ⟨ss, h1, h2, h3⟩ := h
  exact ⟨ss, h1, h2, h3.more hB⟩
theorem SRow.length {B : Nat} {w : World} {v : Value} {ns : List (List UInt8)} (h : SRow B w v ns) : ∃ A cap, v = .slice A ns.length cap ∧ ns.length ≤ cap ∧ ns.length ≤ maxLen := by
  obtain ⟨ss, rfl, _, A, cap, e, h1, h2, _⟩ := h
  exact ⟨A, cap, by rw [e, List.length_map], by simpa using h1, by simpa using h2⟩
/-- The text at place k. -/
theorem SRow.at_ {B : Nat} {w : World} {A : Option Addr} {n cap k : Nat} {ns : List (List UInt8)} {x : List UInt8} (h : SRow B w (.slice A n cap) ns) (hk : ns[k]? = some x) :
    ∃ b o s, A = some ⟨b, o, none⟩ ∧ b < B ∧ w.cell? ⟨b, o + k, none⟩ = some (.string s) ∧ s.data.toList = x ∧ s.size ≤ 1000000 := by
  obtain ⟨ss, rfl, hz, A', cap', e, _, _, h1, h2⟩ := h
  injection e with e1 e2 e3
  subst e1
  rw [List.getElem?_map] at hk
  cases hs : ss[k]? with
  | none => rw [hs] at hk; cases hk
  | some s =>
    rw [hs] at hk
    injection hk with hk
    have hl : k < ss.length := (List.getElem?_eq_some_iff.1 hs).1
    obtain ⟨b, o, e, hb, hc⟩ := h2 (by omega)
    exact ⟨b, o, s, e, hb, hc k _ (by unfold scells; rw [List.getElem?_map, hs]; rfl), hk, hz s (List.mem_of_getElem? hs)⟩
/-- What a class in memory says of itself, but for its row of names. -/
structure Nmd (k : KC) (c : PC) : Prop where
  nm : k.name.data.toList = c.name
  nsz : k.name.size ≤ 1000000
  sp : k.super.data.toList = c.super
  ssz : k.super.size ≤ 1000000
  ifc : k.iface = c.iface
  abs : k.abs = c.abs
  at_ : k.at_ = c.at_
  few : c.ifaces.length ≤ 1000
/-- .. with its row of names, below block B. -/
structure Says (B : Nat) (k : KC) (c : PC) (w : World) : Prop where
  nmd : Nmd k c
  row : SRow B w k.ifn c.ifaces
  form : ∀ A n q, k.ifn = .slice A n q → A = none ∨ ∃ b o, A = some ⟨b, o, none⟩
theorem Says.keep {B B' : Nat} {k : KC} {c : PC} {w w' : World} (h : Says B k c w) (hB : B ≤ B') (hk : ∀ p : Addr, p.block < B → w'.cell? p = w.cell? p) : Says B' k c w' :=
  ⟨h.nmd, (h.row.keep hk).more hB, h.form⟩
/-- A row of texts that the call owns. -/
def OwnS (w : World) (base : Nat) (v : Value) (ns : List (List UInt8)) : Prop :=
  ∃ ss : List ByteArray, ss.map (fun s => s.data.toList) = ns ∧ (∀ s ∈ ss, s.size ≤ 1000000) ∧ w.ownsRow base 9 1 v ss.length (scells ss)
theorem OwnS.nil (w : World) (base : Nat) : OwnS w base (.slice none 0 0) [] := ⟨[], rfl, by simp, World.ownsRow_nil _ _ _ _⟩
theorem OwnS.row {w : World} {base : Nat} {v : Value} {ns : List (List UInt8)} (h : OwnS w base v ns) : SRow w.heap.size w v ns := by
  obtain ⟨ss, h1, h2, h3⟩ := h
  exact ⟨ss, h1, h2, Row.hof_own h3⟩
theorem own_plain {w : World} {base : Nat} {e : TypeId} {size n : Nat} {v : Value} {xs : List Value} (h : w.ownsRow base e size v n xs) : ∀ A m q, v = .slice A m q → A = none ∨ ∃ b o, A = some ⟨b, o, none⟩ := by
  intro A m q hv
  rcases h.2 with ⟨rfl, _⟩ | ⟨g, cap, cur, rfl, _⟩
  · injection hv with h1 _ _
    exact .inl h1.symm
  · injection hv with h1 _ _
    exact .inr ⟨g, 0, h1.symm⟩
theorem OwnS.form {w : World} {base : Nat} {v : Value} {ns : List (List UInt8)} (h : OwnS w base v ns) : ∃ a c, v = .slice a ns.length c := by
  obtain ⟨ss, rfl, h2, h3⟩ := h
  obtain ⟨a, c, e⟩ := hown_form h3
  exact ⟨a, c, by rw [e, List.length_map]⟩
theorem OwnS.below {w w' : World} {base : Nat} {v : Value} {ns : List (List UInt8)} (h : OwnS w base v ns) (hb : Below w.heap.size w w') : OwnS w' base v ns := by
  obtain ⟨ss, h1, h2, h3⟩ := h
  exact ⟨ss, h1, h2, hown_below h3 hb⟩
/-- All blocks of cells are as they were, but those of a type T and the blocks b, c. -/
structure Ex (T : TypeId) (b c : Nat) (w w' : World) : Prop where
  os : w'.os = w.os
  tape : w'.tape = w.tape
  output : w'.output = w.output
  size : w.heap.size ≤ w'.heap.size
  block : ∀ (k : Nat) (cs : Array Value) (t : TypeId) (m : Nat × Nat), t ≠ T → k ≠ b → k ≠ c → w.heap[k]? = some (.cells cs t m) → w'.heap[k]? = some (.cells cs t m)
theorem Ex.refl (T : TypeId) (b c : Nat) (w : World) : Ex T b c w w := ⟨rfl, rfl, rfl, Nat.le_refl _, fun _ _ _ _ _ _ _ h => h⟩
theorem Ex.trans {T : TypeId} {b c : Nat} {w w1 w' : World} (h : Ex T b c w w1) (k : Ex T b c w1 w') : Ex T b c w w' :=
  ⟨k.os.trans h.os, k.tape.trans h.tape, k.output.trans h.output, Nat.le_trans h.size k.size, fun i cs t m ht h1 h2 e => k.block i cs t m ht h1 h2 (h.block i cs t m ht h1 h2 e)⟩
theorem Ex.of_below {T : TypeId} {b c : Nat} {w w' : World} (h : Below w.heap.size w w') : Ex T b c w w' := ⟨h.os, h.tape, h.output, h.size, fun k cs t m _ _ _ e => (h.block k (lt_of_block e)).trans e⟩
theorem Ex.kept {T : TypeId} {base b c : Nat} {w w' : World} (h : HKept T base w w') : Ex T b c w w' := ⟨h.below.os, h.below.tape, h.below.output, h.below.size, fun k cs t m ht _ _ e => h.other k cs t m ht e⟩
theorem Ex.set {T : TypeId} {b c : Nat} {w : World} {d i : Nat} {u : Value} (hd : d = b ∨ d = c) : Ex T b c w (w.setCell ⟨d, i, none⟩ u) :=
  ⟨rfl, rfl, rfl, by simp [World.setCell], fun k cs t m _ h1 h2 e => (Below.heap_setCell _ _ _ _ (by rcases hd with rfl | rfl <;> assumption)).trans e⟩
theorem Ex.drew {T : TypeId} {b c : Nat} {w w' : World} (h : Ex T b c w w') : Ex T b c w w'.drew := ⟨h.os, h.tape, h.output, h.size, h.block⟩
theorem Ex.drewN {T : TypeId} {b c : Nat} {w w' : World} (h : Ex T b c w w') (n : Nat) : Ex T b c w (w'.drewN n) := ⟨h.os, h.tape, h.output, h.size, h.block⟩
theorem Ex.kat {T : TypeId} {b c q : Nat} {w w' : World} {k : KC} (h : Ex T b c w w') (hT : (116 : TypeId) ≠ T) (h1 : q ≠ b) (h2 : q ≠ c) (hk : KAt q k w) : KAt q k w' := h.block _ _ _ _ hT h1 h2 hk
theorem Ex.own {T : TypeId} {b c base : Nat} {w w' : World} {e : TypeId} {size : Nat} {v : Value} {n : Nat} {xs : List Value} (h : Ex T b c w w') (he : e ≠ T) (h1 : v.ownBlock ≠ some b) (h2 : v.ownBlock ≠ some c) (ho : w.ownsRow base e size v n xs) : w'.ownsRow base e size v n xs := by
  obtain ⟨q1, q2⟩ := ho
  refine ⟨q1, ?_⟩
  rcases q2 with q2 | ⟨g, cap, cur, hv, hg, hgg, r⟩
  · exact .inl q2
  · subst hv
    exact .inr ⟨g, cap, cur, rfl, hg, h.block _ _ _ _ he (fun e => h1 (by simp [Value.ownBlock, e])) (fun e => h2 (by simp [Value.ownBlock, e])) hgg, r⟩
/-- Where the interfaces of a class stand. -/
def ifs (cs : List PC) (i : Nat) : List Nat := match cs[i]? with
  | none => []
  | some c => c.ifaces.filterMap (ix cs)
theorem ifs_at {cs : List PC} {i : Nat} {c : PC} (h : cs[i]? = some c) : ifs cs i = c.ifaces.filterMap (ix cs) := by unfold ifs; simp only [h]
theorem sup_at {cs : List PC} {i : Nat} {c : PC} (h : cs[i]? = some c) : sup cs i = ix cs c.super := by unfold sup; simp only [h]
theorem dir_up {cs : List PC} {x j : Nat} (hx : x < cs.length) : Dir (sup cs) (ifs cs) x j ↔ Up cs x j := by
  have hc := List.getElem?_eq_getElem hx
  generalize cs[x] = c at hc
  unfold Dir
  rw [sup_at hc, ifs_at hc]
  constructor
  · rintro (h | h)
    · exact ⟨c, hc, .inl h⟩
    · obtain ⟨nm, h1, h2⟩ := List.mem_filterMap.1 h
      exact ⟨c, hc, .inr ⟨nm, h1, h2⟩⟩
  · rintro ⟨d, hd, h⟩
    rw [hc] at hd; cases hd
    rcases h with h | ⟨nm, h1, h2⟩
    · exact .inl h
    · exact .inr (List.mem_filterMap.2 ⟨nm, h1, h2⟩)
theorem filterMap_all {α β : Type} {f : α → Option β} : ∀ {l : List α}, (∀ x ∈ l, ∃ y, f x = some y) → (l.filterMap f).map some = l.map f
  | [], _ => rfl
  | x :: l, h => by
    obtain ⟨y, hy⟩ := h x (by simp)
    rw [List.filterMap_cons, hy]
    simp only [List.map_cons]
    rw [hy, filterMap_all fun z hz => h z (List.mem_cons_of_mem _ hz)]
/-- The pointers to the classes of a table, in their order. -/
def ptrs (cl : Nat → Nat) (n : Nat) : List Value := (List.range n).map fun j => ptrV cl (some j)
theorem ptrs_at (cl : Nat → Nat) {n j : Nat} (h : j < n) : (ptrs cl n)[j]? = some (.pointer (some ⟨cl j, 0, none⟩)) := by
  unfold ptrs
  rw [List.getElem?_map, List.getElem?_range h]
  rfl
/-- A table at block tb: its classes cs, of which those from ow on are its own; all of it below block B. -/
structure HT (B tb mb : Nat) (A : Option Addr) (cap ow : Nat) (cs : List PC) (cl sl : Nat → Nat) (S : Nat → List Nat) (w : World) : Prop where
  good : Good cs
  hB : B ≤ w.heap.size
  tlt : tb < B
  mlt : mb < B
  clt : ∀ i, i < cs.length → cl i < B
  slt : ∀ i, i < cs.length → sl i < B
  t0 : w.heap[tb]? = some (.cells #[.slice A cs.length cap, .map (some mb), .int .i64 (ow : Int)] 112 (0, 0))
  map : TMap mb cs cl w
  all : Row B 1 w (.slice A cs.length cap) cs.length (ptrs cl cs.length)
  tab : Tab B cs.length cs.length cl sl (sup cs) (ifs cs) S w
  exact : ∀ i, i < cs.length → ∀ k, bit (S i) k = true ↔ Abv cs i k
  says : ∀ i c, cs[i]? = some c → ∃ k, KAt (cl i) k w ∧ Says B k c w
  own : ow ≤ cs.length
  off : ∀ i k, i < cs.length → KAt (cl i) k w → ∀ b o q p, k.ifs = .slice (some ⟨b, o, none⟩) q p → b < B ∧ ∀ j, j < cs.length → cl j ≠ b
section
variable {B tb mb cap ow : Nat} {A : Option Addr} {cs : List PC} {cl sl : Nat → Nat} {S : Nat → List Nat} {w w' : World}
theorem HT.below (h : HT B tb mb A cap ow cs cl sl S w) (hb : Below B w w') : HT B tb mb A cap ow cs cl sl S w' := by
  have blk : ∀ b, b < B → w'.heap[b]? = w.heap[b]? := fun b hb' => hb.block b hb'
  have cell : ∀ p : Addr, p.block < B → w'.cell? p = w.cell? p := fun p hp => hb.cell hp
  refine ⟨h.good, Nat.le_trans h.hB hb.size, h.tlt, h.mlt, h.clt, h.slt, (blk _ h.tlt).trans h.t0, h.map.same (blk _ h.mlt), h.all.keep cell, ?_, h.exact, ?_, h.own, fun i k hi hk => h.off i k hi (by unfold KAt at hk ⊢; rw [← blk _ (h.clt i hi)]; exact hk)⟩
  · have T := h.tab
    exact ⟨T.few, fun i hi => by
      obtain ⟨k, h1, h2, h3, h4, h5⟩ := T.cls i hi
      exact ⟨k, (blk _ (h.clt i hi)).trans h1, h2, h3, h4.keep cell, h5⟩, fun i hi => ⟨(blk _ (h.slt i hi)).trans (T.sets i hi).row, (T.sets i hi).word, (T.sets i hi).few⟩, T.inj, T.low, T.upn, T.ifn, T.wide, T.len⟩
  · intro i c hc
    obtain ⟨k, h1, h2⟩ := h.says i c hc
    exact ⟨k, (blk _ (h.clt i (List.getElem?_eq_some_iff.1 hc).1)).trans h1, h2.keep (Nat.le_refl _) cell⟩
/-- A class by its place: its cells, its links and its set. -/
theorem HT.cls (h : HT B tb mb A cap ow cs cl sl S w) {i : Nat} {c : PC} (hc : cs[i]? = some c) :
    ∃ k, KAt (cl i) k w ∧ Says B k c w ∧ k.place = i ∧ k.up = ptrV cl (ix cs c.super) ∧ k.above = .slice (some ⟨sl i, 0, none⟩) (S i).length (S i).length ∧ SetAt (sl i) (S i) w := by
  have hi : i < cs.length := (List.getElem?_eq_some_iff.1 hc).1
  obtain ⟨k, h1, h2⟩ := h.says i c hc
  obtain ⟨l, l1, l2, l3, l4, l5⟩ := h.tab.cls i hi
  have e : ∀ q, k.cells[q]? = l.cells[q]? := fun q => by rw [← h1.cell q, l1.cell q]
  have e7 := e 7
  have e8 := e 8
  have e10 := e 10
  simp only [KC.cells, List.getElem?_cons_succ, List.getElem?_cons_zero, Option.some.injEq, Value.int.injEq, true_and] at e7 e8 e10
  exact ⟨k, h1, h2, by omega, by rw [e8, l3, sup_at hc], by rw [e10, l5], h.tab.sets i hi⟩
end
end Go.Proofs.YtmaknddlgppinaaGreatDoor
/-! Hb -/
namespace Go.Proofs.YtmaknddlgppinaaGreatDoor
open Go.RowKit

/-- A table that is being made at block nb: its classes cs at the blocks cl; the first o are another table's. -/
structure AT (base nb mb o : Nat) (cs : List PC) (cl : Nat → Nat) (w : World) : Prop where
  few : cs.length ≤ 1000
  blt : base ≤ w.heap.size
  nge : base ≤ nb
  mge : base ≤ mb
  map : TMap mb cs cl w
  t0 : ∃ v, w.heap[nb]? = some (.cells #[v, .map (some mb), .int .i64 (o : Int)] 112 (0, 0)) ∧ w.ownsRow base 108 1 v cs.length (ptrs cl cs.length)
theorem ptrs_put (cl : Nat → Nat) (n b : Nat) : ptrs (put2 cl n b) (n + 1) = ptrs cl n ++ [.pointer (some ⟨b, 0, none⟩)] := by
  unfold ptrs
  rw [List.range_succ, List.map_append]
  congr 1
  · apply List.map_congr_left
    intro j hj
    have := List.mem_range.1 hj
    simp only [ptrV]
    rw [put2_ne _ _ (by omega)]
  · simp [ptrV, put2_self]
theorem ix_put {cs : List PC} {cl : Nat → Nat} {b : Nat} {i : Nat} (h : i < cs.length) : put2 cl cs.length b i = cl i := put2_ne _ _ (by omega)
/-- The class's cells with another place. -/
def KC.at (k : KC) (n : Nat) : KC := { k with place := n }
section
variable {base nb mb o : Nat} {cs : List PC} {cl : Nat → Nat} {w w' : World}
theorem AT.nlt (h : AT base nb mb o cs cl w) : nb < w.heap.size := by
  obtain ⟨v, h1, _⟩ := h.t0
  exact lt_of_block h1
/-- Nothing of it is turned. -/
theorem AT.below (h : AT base nb mb o cs cl w) (hb : Below w.heap.size w w') : AT base nb mb o cs cl w' := by
  obtain ⟨v, h1, h2⟩ := h.t0
  exact ⟨h.few, Nat.le_trans h.blt hb.size, h.nge, h.mge, h.map.same (hb.block mb h.map.lt), v, (hb.block nb (lt_of_block h1)).trans h1, hown_below h2 hb⟩
theorem AT.drewN (h : AT base nb mb o cs cl w) (n : Nat) : AT base nb mb o cs cl (w.drewN n) := ⟨h.few, h.blt, h.nge, h.mge, h.map, h.t0⟩
end
/-- The links of a class. -/
structure Links (base : Nat) (cs : List PC) (cl : Nat → Nat) (i : Nat) (k : KC) (w : World) : Prop where
  up : k.up = ptrV cl (sup cs i)
  ifs : w.ownsRow base 108 1 k.ifs (ifs cs i).length ((ifs cs i).map fun j => ptrV cl (some j))
/-- The own classes of a table that is being made, from o on: the first m of them are linked. -/
structure Lnk (base o m : Nat) (cs : List PC) (cl : Nat → Nat) (w : World) : Prop where
  low : ∀ i, o ≤ i → i < cs.length → base ≤ cl i
  inj : ∀ i j, o ≤ i → o ≤ j → i < cs.length → j < cs.length → cl i = cl j → i = j
  cls : ∀ i c, o ≤ i → cs[i]? = some c → ∃ k, KAt (cl i) k w ∧ k.place = i ∧ Nmd k c ∧ OwnS w base k.ifn c.ifaces ∧ k.above = .slice none 0 0 ∧ (i < o + m → Links base cs cl i k w) ∧ (o + m ≤ i → k.up = .pointer none ∧ k.ifs = .slice none 0 0)
section
variable {base nb mb o m : Nat} {cs : List PC} {cl : Nat → Nat} {w w' : World}
theorem Lnk.none (base : Nat) (cs : List PC) (cl : Nat → Nat) (w : World) : Lnk base cs.length 0 cs cl w :=
  ⟨fun i h1 h2 => absurd h2 (by omega), fun i j h1 _ h2 => absurd h2 (by omega), fun i c h1 h2 => absurd (List.getElem?_eq_some_iff.1 h2).1 (by omega)⟩
theorem Lnk.below (h : Lnk base o m cs cl w) (hb : Below w.heap.size w w') : Lnk base o m cs cl w' :=
  ⟨h.low, h.inj, fun i c h1 h2 => by
    obtain ⟨k, k1, k2, k3, k4, k5, k6, k7⟩ := h.cls i c h1 h2
    exact ⟨k, (hb.block _ (lt_of_block k1)).trans k1, k2, k3, k4.below hb, k5, fun h => ⟨(k6 h).up, hown_below (k6 h).ifs hb⟩, k7⟩⟩
theorem Lnk.drewN (h : Lnk base o m cs cl w) (n : Nat) : Lnk base o m cs cl (w.drewN n) :=
  ⟨h.low, h.inj, fun i c h1 h2 => by
    obtain ⟨k, k1, k2, k3, k4, k5, k6, k7⟩ := h.cls i c h1 h2
    exact ⟨k, k1, k2, k3, k4, k5, fun h => ⟨(k6 h).up, (k6 h).ifs⟩, k7⟩⟩
end
end Go.Proofs.YtmaknddlgppinaaGreatDoor
/-! Hd -/
namespace Go.Proofs.YtmaknddlgppinaaGreatDoor
open Go.RowKit

theorem info108 : ∃ i, Tryz.prog.info? 108 = some i ∧ i.zero = some (.pointer none) ∧ i.size = 1 ∧ i.bytes = 8 := info_parts (by kernel_rfl)
theorem und109 : Tryz.prog.underlying 109 = some (.slice 108) := by kernel_rfl
theorem knew_at (w : World) (cs : List Value) (t : TypeId) (g : Nat) (h : g = w.heap.size) : ∀ j u, cs[j]? = some u → (w.alloc (.cells cs.toArray t)).cell? (({ block := g, off := 0 } : Addr).add j) = some u := by
  subst h
  exact hnew_cells w cs t
theorem grown_block {W2 W3 : World} {v : Value} {k : Nat} {x : Obj} (hg : W2.grownBy W3 v.ownBlock) (h : W2.heap[k]? = some x) (hne : v.ownBlock ≠ some k) : W3.heap[k]? = some x :=
  (hg.block k (lt_of_block h) (fun e => hne e.symm)).trans h
theorem alloc_drew {W : World} {o : Obj} {k : Nat} {x : Obj} (h : W.heap[k]? = some x) : (W.alloc o).drew.heap[k]? = some x := hheap_alloc_lt h
theorem KAt.place {c : Nat} {k : KC} {w : World} (h : KAt c k w) (n : Nat) : KAt c (k.at n) (w.setCell ⟨c, 7, none⟩ (.int .i64 (n : Int))) := by
  unfold KAt
  rw [heap_set_eq h]
  simp [KC.cells, KC.at]
theorem TMap.obj {mb : Nat} {cs : List PC} {cl : Nat → Nat} {w : World} (h : TMap mb cs cl w) : ∃ es n, w.heap[mb]? = some (.map es n) := by
  obtain ⟨m, D, _, ⟨es, clock, hb, _⟩, _⟩ := h
  exact ⟨es, clock, hb⟩
theorem hown_ne_map {w : World} {base : Nat} {e : TypeId} {size : Nat} {v : Value} {n : Nat} {xs : List Value} (h : w.ownsRow base e size v n xs) {q : Nat} {es : Array MapEntry} {m : Nat} (hq : w.heap[q]? = some (.map es m)) : v.ownBlock ≠ some q := by
  rcases h.2 with ⟨rfl, _⟩ | ⟨g, cap, cur, rfl, _, hgg, _⟩
  · simp [Value.ownBlock]
  · intro e1
    simp [Value.ownBlock] at e1
    subst e1
    rw [hgg] at hq
    cases hq
set_option maxRecDepth 1000000 in
set_option maxHeartbeats 6400000 in
theorem add_any {base nb mb o : Nat} {cs : List PC} {cl : Nat → Nat} {w : World} (h : AT base nb mb o cs cl w) {cb : Nat} {k : KC} (hk : KAt cb k w) (hcb : base ≤ cb) (hne : cb ≠ nb) (c : PC) (hn : k.name.data.toList = c.name) (hsz : k.name.size ≤ 1000000) (hfew : cs.length < 1000) :
    Calls Tryz.prog 100 #[.pointer (some ⟨nb, 0, none⟩), .pointer (some ⟨cb, 0, none⟩)] w fun e w' =>
      (ix cs c.name ≠ none ∧ e = .returned (.bool false) ∧ ∃ n, w' = w.drewN n) ∨
      (ix cs c.name = none ∧ e = .returned (.bool true) ∧ AT base nb mb o (cs ++ [c]) (put2 cl cs.length cb) w' ∧ KAt cb (k.at cs.length) w' ∧ Ex 108 nb cb w w' ∧ Below base w w') := by
  obtain ⟨v, t0, town⟩ := h.t0
  have c1 : w.cell? ⟨nb, 1, none⟩ = some (.map (some mb)) := by rw [kcells_of t0]; rfl
  have c0 : w.cell? ⟨nb, 0, none⟩ = some v := by rw [kcells_of t0]; rfl
  have k0 : w.cell? ⟨cb, 0, none⟩ = some (.string k.name) := hk.cell 0
  have k7 : w.cell? ⟨cb, 7, none⟩ = some (.int .i64 (k.place : Int)) := hk.cell 7
  have f7 : w.frozen? ⟨cb, 7, none⟩ = false := kfree_of hk 7
  have f0 : w.frozen? ⟨nb, 0, none⟩ = false := kfree_of t0 0
  have hs1 : k.name.size ≤ maxLen := by unfold maxLen; omega
  have hl := (h.map.same (w' := w.drew) rfl).look k.name hs1
  have H := Lib.hid h
  have HK := Lib.hid hk
  have HT0 := Lib.hid t0
  have HOWN := Lib.hid town
  rw [hn] at hl
  cases hix : ix cs c.name with
  | some j =>
    rw [hix] at hl
    have hl2 : (Instr.lookup 110 (.map (some mb)) (.string k.name) false).run Tryz.prog w.drew = .ok (.pointer (some ⟨cl j, 0, none⟩)) w.drew := hl
    clear hl hix h hk t0 town
    go_enter Tryz.func100, Tryz.ntmps100
    go_wp2
    go_region
    go_wp2
    go_ret
    exact .inl ⟨by simp, rfl, 1, rfl⟩
  | none =>
    have HIX := Lib.hid hix
    rw [hix] at hl
    have hl2 : (Instr.lookup 110 (.map (some mb)) (.string k.name) false).run Tryz.prog w.drew = .ok (.pointer none) w.drew := hl
    obtain ⟨a, cp, rfl⟩ := hown_form town
    have O1 := Lib.hid (show (w.drew.setCell ⟨cb, 7, none⟩ (.int .i64 (cs.length : Int))).ownsRow base 108 1 (.slice a cs.length cp) cs.length (ptrs cl cs.length) from hown_but (w := w.drew) town ((HBut.refl cb cb w.drew).set cb (.inl rfl)) (hown_ne town hk (by decide)) (hown_ne town hk (by decide)))
    have T1 := Lib.hid (show (w.setCell ⟨cb, 7, none⟩ (.int .i64 (cs.length : Int))).heap[nb]? = _ from hheap_set_ne (a := ⟨cb, 7, none⟩) hne.symm t0)
    have K1 := Lib.hid (show (w.setCell ⟨cb, 7, none⟩ (.int .i64 (cs.length : Int))).heap[cb]? = _ from hk.place cs.length)
    have N1 := Lib.hid (hown_ne town t0 (by decide))
    have N2 := Lib.hid (hown_ne town hk (by decide))
    obtain ⟨i0, hi0, hz0, hz1, hz2⟩ := info108
    clear hl hix h hk t0 town
    go_enter Tryz.func100, Tryz.ntmps100
    go_wp2
    go_region
    have hb := H.out.blt
    go_wp2_with (at_builtin; refine hwpList_append_own2 rfl (.tmp 28) (.tmp 30) 109 rfl base 108 i0 (.pointer none) 1 8 und109 hi0 hz0 hz1 hz2 rfl (by decide) (.slice a cs.length cp) cs.length _ rfl (World.ownsRow.alloc O1.out _) ⟨_, 0, none⟩ 1 1 [.pointer (some ⟨cb, 0, none⟩)] rfl rfl (knew_at _ [.pointer (some ⟨cb, 0, none⟩)] 108 _ (by simp)) (fun u hu => by simp at hu; subst hu; rfl) (by unfold maxLen; omega) (by omega) (by simp; omega) ?_; intro v3 w3 own3 hg3 hm3; obtain ⟨a3, c3, rfl⟩ := hown_form own3; have OW3 := Lib.hid own3; have HG3 := Lib.hid hg3; clear own3; have T3 := grown_block hg3 (alloc_drew T1.out) N1.out; have K3 := grown_block hg3 (alloc_drew K1.out) N2.out; have c03 := kcells_of T3 0; have f03 := kfree_of T3 0; rw [show (#[Value.slice a cs.length cp, Value.map (some mb), Value.int .i64 (o : Int)] : Array Value)[0]? = some (Value.slice a cs.length cp) from rfl] at c03; have TT3 := Lib.hid T3; have KK3 := Lib.hid K3; clear T3 K3 hg3 hm3)
    obtain ⟨es, nm, hmo⟩ := H.out.map.obj
    have mcb : mb ≠ cb := fun e => by have := HK.out; unfold KAt at this; rw [← e, hmo] at this; cases this
    have mnb : mb ≠ nb := fun e => by have := HT0.out; rw [← e, hmo] at this; cases this
    have mow := hown_ne_map HOWN.out hmo
    have hm3 : w3.heap[mb]? = w.heap[mb]? := (HG3.out.block mb (by have := lt_of_block hmo; simp; omega) (fun e => mow e.symm)).trans ((Below.heap_alloc _ _ _ (by have := lt_of_block hmo; simpa using this)).trans (Below.heap_setCell _ _ _ _ mcb))
    have M4 : TMap mb cs (put2 cl cs.length cb) (w3.setCell ⟨nb, 0, none⟩ (.slice a3 (cs.length + 1) c3)).drew := (H.out.map.as (fun i hi => ix_put hi)).same ((Below.heap_setCell _ _ _ _ mnb).trans hm3)
    have MM4 := Lib.hid M4.obj
    obtain ⟨w5, hup, M5, hg5⟩ := M4.put c hs1 hn.symm HIX.out (by omega)
    rw [put2_self] at hup
    have T4 := heap_set_eq (i := 0) (u := .slice a3 (cs.length + 1) c3) TT3.out
    have K4 := hheap_set_ne (a := ⟨nb, 0, none⟩) (u := .slice a3 (cs.length + 1) c3) hne KK3.out
    have c14 := kcells_of T4 1
    have k04 := kcells_of K4 0
    rw [show ((#[Value.slice a cs.length cp, Value.map (some mb), Value.int .i64 (o : Int)] : Array Value).setIfInBounds 0 (.slice a3 (cs.length + 1) c3))[1]? = some (Value.map (some mb)) from rfl] at c14
    rw [show (k.at cs.length).cells.toArray[0]? = some (Value.string k.name) from rfl] at k04
    have M5' := Lib.hid M5
    have HG5 := Lib.hid hg5
    have T4' := Lib.hid T4
    have K4' := Lib.hid K4
    clear M4 M5 hg5 T4 K4 mow hm3
    go_region
    go_wp2
    go_ret
    have hsz3 := HG3.out.size
    have hsz5 := HG5.out.size
    simp at hsz3 hsz5
    have O3 := OW3.out
    have OW4 := hown_but (w := w3) O3 ((HBut.refl nb nb w3).set (i := 0) (u := .slice a3 (cs.length + 1) c3) nb (.inl rfl)) (hown_ne O3 TT3.out (by decide)) (hown_ne O3 TT3.out (by decide))
    have hmb4 : ∃ es n, (w3.setCell ⟨nb, 0, none⟩ (.slice a3 (cs.length + 1) c3)).heap[mb]? = some (.map es n) := MM4.out
    have e5 : ∀ {q : Nat} {ys : Array Value} {t : TypeId} {z : Nat × Nat}, (w3.setCell ⟨nb, 0, none⟩ (.slice a3 (cs.length + 1) c3)).heap[q]? = some (.cells ys t z) → w5.heap[q]? = some (.cells ys t z) := fun {q ys t z} hq =>
      (HG5.out.block q (lt_of_block hq) (fun e => by injection e with e; subst e; obtain ⟨_, _, h⟩ := hmb4; rw [h] at hq; cases hq)).trans hq
    have hB : Below base w w5 := by
      refine Below.grown (Below.drew (Below.setCell (Below.grown ((Below.setCell (Below.refl base w) hcb (.int .i64 (cs.length : Int))).alloc (by simp; omega) _).drew HG3.out (by simp; omega) (fun q hq => hown_block_ge HOWN.out q hq)) H.out.nge _)) HG5.out (by simp; omega) (fun q hq => by injection hq with hq; subst hq; exact H.out.mge)
    refine .inr ⟨trivial, rfl, ⟨by simp; omega, by omega, H.out.nge, H.out.mge, M5'.out, .slice a3 (cs.length + 1) c3, e5 T4'.out, ?_⟩, e5 K4'.out, ⟨hB.os, hB.tape, hB.output, hB.size, fun q ys t z ht h1 h2 hq => ?_⟩, hB⟩
    · rw [List.length_append, List.length_singleton, ptrs_put]
      obtain ⟨q1, q2⟩ := OW4
      refine ⟨q1, ?_⟩
      rcases q2 with q2 | ⟨g, cap, cur, hv, hg, hgg, r⟩
      · exact .inl q2
      · exact .inr ⟨g, cap, cur, hv, hg, e5 hgg, r⟩
    · refine e5 (hheap_set_ne (a := ⟨nb, 0, none⟩) h1 (grown_block HG3.out (alloc_drew (hheap_set_ne (a := ⟨cb, 7, none⟩) h2 hq)) (hown_ne HOWN.out hq ht)))
end Go.Proofs.YtmaknddlgppinaaGreatDoor
/-! Hv -/
namespace Go.Proofs.YtmaknddlgppinaaGreatDoor
open Go.RowKit Go.Shelf

def clone_ren : Ren := ⟨fun | 316 => 169 | n => n, fun | 37 => 166 | 127 => 215 | n => n, fun | n => n⟩
theorem clone_lays : LaysM.n316 Tryz.prog clone_ren := {
  mixed := by kernel_rfl
  f316 := Tryz.func169.trans (congrArg some (by kernel_rfl))
  t0 := Tryz.underlying0
  a0 := Tryz.isAgg0
  z0 := Tryz.sizeOf0
  v0 := Tryz.zeroValue0
  t3 := Tryz.underlying3
  a3 := Tryz.isAgg3
  z3 := Tryz.sizeOf3
  v3 := Tryz.zeroValue3
  t4 := Tryz.underlying4
  a4 := Tryz.isAgg4
  z4 := Tryz.sizeOf4
  v4 := Tryz.zeroValue4
  t5 := Tryz.underlying5
  a5 := Tryz.isAgg5
  z5 := Tryz.sizeOf5
  v5 := Tryz.zeroValue5
  t9 := Tryz.underlying9
  a9 := Tryz.isAgg9
  z9 := Tryz.sizeOf9
  v9 := Tryz.zeroValue9
  t37 := Tryz.underlying166
  a37 := Tryz.isAgg166
  z37 := Tryz.sizeOf166
  v37 := Tryz.zeroValue166
  t127 := Tryz.underlying215
  a127 := Tryz.isAgg215
  z127 := Tryz.sizeOf215
  v127 := Tryz.zeroValue215
  i0 := by kernel_rfl
  i3 := by kernel_rfl
  i4 := by kernel_rfl
  i5 := by kernel_rfl
  i9 := by kernel_rfl
  i37 := by kernel_rfl
  i127 := by kernel_rfl }
theorem strClone_any (s : ByteArray) (w : World) (hs : s.size ≤ 281474976710656) : Calls Tryz.prog 169 #[.string s] w fun e w' => e = .returned (.string s) ∧ Below w.heap.size w w' := Any.stringslite_Clone clone_lays s w hs
set_option maxRecDepth 1000000 in
theorem stringsClone_any (s : ByteArray) (w : World) (hs : s.size ≤ 281474976710656) : Calls Tryz.prog 137 #[.string s] w fun e w' => e = .returned (.string s) ∧ Below w.heap.size w w' := by
  go_enter Tryz.func137, Tryz.ntmps137
  go_wp2_with fail
  refine (strClone_any s w hs).mono ?_
  rintro e w' ⟨rfl, hb⟩
  go_wp2
  go_ret
  exact ⟨rfl, hb⟩
def copy_ren : Ren := ⟨fun | 5 => 104 | n => n, fun | 23 => 110 | 24 => 110 | 26 => 9 | 27 => 108 | n => n, fun | n => n⟩
theorem copy_lays : SlLaysX.n5 Tryz.prog copy_ren := {
  mixed := by kernel_rfl
  f5 := ⟨Tryz.f104.name, by kernel_rfl, Tryz.func104.trans (congrArg some (by kernel_rfl))⟩
  t0 := Tryz.underlying0
  a0 := Tryz.isAgg0
  z0 := Tryz.sizeOf0
  v0 := Tryz.zeroValue0
  t4 := Tryz.underlying4
  a4 := Tryz.isAgg4
  z4 := Tryz.sizeOf4
  v4 := Tryz.zeroValue4
  t23 := Tryz.underlying110
  a23 := Tryz.isAgg110
  z23 := Tryz.sizeOf110
  v23 := Tryz.zeroValue110
  t24 := Tryz.underlying110
  a24 := Tryz.isAgg110
  z24 := Tryz.sizeOf110
  v24 := Tryz.zeroValue110
  a26 := Tryz.isAgg9
  z26 := Tryz.sizeOf9
  a27 := Tryz.isAgg108
  z27 := Tryz.sizeOf108 }
def sl_ren (f t e : Nat) : Ren := ⟨fun | 41 => f | n => n, fun | 22 => t | 23 => e | n => n, fun | n => n⟩
theorem clonePtr_lays : SlLaysE0.n41 Tryz.prog (sl_ren 103 109 108) := {
  mixed := by kernel_rfl
  f41 := ⟨Tryz.f103.name, by kernel_rfl, Tryz.func103.trans (congrArg some (by kernel_rfl))⟩
  t4 := Tryz.underlying4
  a4 := Tryz.isAgg4
  z4 := Tryz.sizeOf4
  v4 := Tryz.zeroValue4
  t22 := Tryz.underlying109
  a22 := Tryz.isAgg109
  z22 := Tryz.sizeOf109
  v22 := Tryz.zeroValue109 }
theorem cloneStr_lays : SlLaysE0.n41 Tryz.prog (sl_ren 77 45 9) := {
  mixed := by kernel_rfl
  f41 := ⟨Tryz.f77.name, by kernel_rfl, Tryz.func77.trans (congrArg some (by kernel_rfl))⟩
  t4 := Tryz.underlying4
  a4 := Tryz.isAgg4
  z4 := Tryz.sizeOf4
  v4 := Tryz.zeroValue4
  t22 := Tryz.underlying45
  a22 := Tryz.isAgg45
  z22 := Tryz.sizeOf45
  v22 := Tryz.zeroValue45 }
theorem shut_ptrs (cl : Nat → Nat) (n : Nat) : ∀ u ∈ ptrs cl n, u.oneCell' = true := by
  intro u hu
  unfold ptrs at hu
  obtain ⟨x, _, rfl⟩ := List.mem_map.1 hu
  rfl
/-- slices.Clone of a row of pointers to classes. -/
theorem clonePtr_any {B n : Nat} {v : Value} {cl : Nat → Nat} {w : World} (hr : Row B 1 w v n (ptrs cl n)) (h0 : n = 0 → v = .slice none 0 0) (hn : n ≤ 1000) :
    Calls Tryz.prog 103 #[v] w fun e w' => ∃ v', e = .returned v' ∧ w'.ownsRow w.heap.size 108 1 v' n (ptrs cl n) ∧ Below w.heap.size w w' := by
  by_cases hz : n = 0
  · rw [h0 hz]
    refine (AnyE.slices_Clone_nil clonePtr_lays 0 0 w).mono ?_
    rintro e w' ⟨rfl, rfl⟩
    subst hz
    exact ⟨_, rfl, World.ownsRow_nil _ _ _ _, Below.refl _ _⟩
  · obtain ⟨A, cap, rfl, _, hm, hl, hc⟩ := hr
    obtain ⟨b, o, rfl, hb, hcell⟩ := hc (by omega)
    obtain ⟨i0, hi0, hz0, hz1, hz2⟩ := info108
    refine (AnyE.slices_Clone clonePtr_lays i0 (.pointer none) 1 8 hi0 hz0 hz1 hz2 rfl (by decide) Tryz.sizeOf108 b o n cap (ptrs cl n) w (by simpa using hl) hm (by omega) hcell (shut_ptrs cl n)).mono ?_
    rintro e w' ⟨v', rfl, h1, _, h3⟩
    exact ⟨v', rfl, h1, h3⟩
/-- slices.Clone of a row of texts. -/
theorem cloneStr_any {B : Nat} {v : Value} {ns : List (List UInt8)} {w : World} (hr : SRow B w v ns) (ha : ∀ A n c, v = .slice A n c → A = none ∨ ∃ b o, A = some ⟨b, o, none⟩) (hn : ns.length ≤ 1000) :
    Calls Tryz.prog 77 #[v] w fun e w' => ∃ v', e = .returned v' ∧ OwnS w' w.heap.size v' ns ∧ Below w.heap.size w w' := by
  obtain ⟨ss, rfl, hsz, A, cap, rfl, hcap, hm, hl, hc⟩ := hr
  have i9 : ∃ i, Tryz.prog.info? 9 = some i ∧ i.zero = some (.string ⟨#[]⟩) ∧ i.size = 1 ∧ i.bytes = 16 := info_parts (by kernel_rfl)
  obtain ⟨i0, hi0, hz0, hz1, hz2⟩ := i9
  rw [List.length_map] at hn
  rcases ha _ _ _ rfl with rfl | ⟨b, o, rfl⟩
  · have h0 : ss.length = 0 := by
      by_cases h : 0 < ss.length
      · obtain ⟨b, o, e, _⟩ := hc h; cases e
      · omega
    refine (AnyE.slices_Clone_nil cloneStr_lays _ cap w).mono ?_
    rintro e w' ⟨rfl, rfl⟩
    have : ss = [] := List.eq_nil_of_length_eq_zero h0
    subst this
    exact ⟨_, rfl, ⟨[], rfl, by simp, World.ownsRow_nil _ _ _ _⟩, Below.refl _ _⟩
  · have hcell : ∀ j u, (scells ss)[j]? = some u → w.cell? ⟨b, o + j, none⟩ = some u := by
      intro j u hu
      have hlt : 0 < ss.length := by
        have := (List.getElem?_eq_some_iff.1 hu).1
        simp [scells] at this
        omega
      obtain ⟨b', o', e, _, h⟩ := hc hlt
      cases e
      exact h j u hu
    refine (AnyE.slices_Clone cloneStr_lays i0 (.string ⟨#[]⟩) 1 16 hi0 hz0 hz1 hz2 rfl (by decide) Tryz.sizeOf9 b o ss.length cap (scells ss) w (by simp [scells]) hm (by omega) hcell (fun u hu => by obtain ⟨x, _, rfl⟩ := List.mem_map.1 hu; rfl)).mono ?_
    rintro e w' ⟨v', rfl, h1, _, h3⟩
    exact ⟨v', rfl, ⟨ss, rfl, hsz, h1⟩, h3⟩
/-- All of a map laid into an empty one. -/
theorem merge_at {D : DataW Value} (hD : ∃ es, D = .map es ∧ es.Pairwise (fun p q => p.1.before q.1 = true) ∧ ∀ p ∈ es, WideAt.IsKeyLit p.1) (k : Lit) (z : DataW Value) : (Lib.mergeD (.map []) D).atKey k z = D.atKey k z := by
  obtain ⟨es, rfl, hr, hk⟩ := hD
  show (es.foldl (fun (D : DataW Value) p => D.put p.1 p.2) (DataW.map [])).atKey k z = _
  rw [Maps.atKey_foldPut k z es (.map []) ⟨_, rfl⟩ hk (Maps.apart_of_rising hr)]
  cases hf : es.find? (fun p => p.1.sameKey k) <;> simp [DataW.atKey, hf]
/-- maps.Copy into an empty map. -/
theorem copy_any {mb nb : Nat} {cs : List PC} {cl : Nat → Nat} {w : World} (h : TMap mb cs cl w) (hn : w.ownsMap Tryz.prog 9 PR nb 0 (.map [])) (hne : nb ≠ mb) (hl : cs.length ≤ 1000) :
    Calls Tryz.prog 104 #[.map (some nb), .map (some mb)] w fun e w' => e = .returned (.tuple #[]) ∧ TMap nb cs cl w' ∧ w.grownBy w' (some nb) := by
  obtain ⟨m, D, hm, ho, hat⟩ := h
  have hs := ho.size_le
  have hc := ho.canonK (Maps.string_keyed und9)
  refine (AnyX.maps_Copy copy_lays (Maps.string_keyed und9) PR nb mb 0 m (.map []) D w hn ho hne (by unfold maxLen; omega)).mono ?_
  rintro e w' ⟨rfl, h1, _, h3⟩
  refine ⟨rfl, ⟨0 + Maps.size D, _, by omega, h1, fun nm => ?_⟩, h3⟩
  rw [merge_at, hat]
  obtain ⟨es, e1, e2, e3⟩ := hc
  exact ⟨es, e1, e2, fun p hp => (Maps.string_keyed und9).one.key (e3 p hp)⟩
theorem copy_nil {nb : Nat} {w : World} : Calls Tryz.prog 104 #[.map (some nb), .map none] w fun e w' => e = .returned (.tuple #[]) ∧ w' = w.alloc (.mapIter none 0 #[] 0) := AnyX.maps_Copy_nil copy_lays (some nb) w
end Go.Proofs.YtmaknddlgppinaaGreatDoor
