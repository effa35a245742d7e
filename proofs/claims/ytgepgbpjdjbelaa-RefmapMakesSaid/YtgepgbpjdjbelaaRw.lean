/-
  MEMORY: rows that a call owns, rows that are read, what is kept. No walk in it.
-/
import Derived.Test.YtgepgbpjdjbelaaRows
import Derived.Test.YtgepgbpjdjbelaaPl
import Derived.WalkKit
import Derived.WalkSpells
import Derived.WalkLawsBesides
import Derived.Below
import Derived.BigQuiet
import Derived.OneCell
import Derived.Laws.OwnMore
import Derived.Deep.AppendLies
import Derived.Deep.Draws
import Derived.Lib.Hide
import Derived.Lib.IndexBytes
import Derived.LoopN
set_option linter.unusedVariables false
set_option linter.unusedSimpArgs false
namespace Go.Proofs.Ytgepgbpjdjbelaa
open Go.RowKit

abbrev L (s : ByteArray) : List UInt8 := s.data.toList
theorem toList_data (s : ByteArray) : s.toList = L s := Lib.toList_data s
theorem size_L (s : ByteArray) : s.size = (L s).length := Lib.size_eq s
theorem size0_nil {s : ByteArray} (h : s.size = 0) : L s = [] := List.eq_nil_of_length_eq_zero (by rw [← size_L]; exact h)
theorem sizepos_ne {s : ByteArray} (h : 0 < s.size) : L s ≠ [] := by
  intro e
  rw [size_L, e] at h
  simp at h
theorem nil_of0 {s : ByteArray} (h : s.size = 0) : s.toList = [] := by rw [toList_data]; exact size0_nil h
theorem ne_ofpos {s : ByteArray} (h : 0 < s.size) : ¬ s.toList = [] := by rw [toList_data]; exact sizepos_ne h
theorem emp_of0 {s : ByteArray} (h : s.size = 0) : s.toList.isEmpty = true := by rw [nil_of0 h]; rfl
theorem emp_ofpos {s : ByteArray} (h : 0 < s.size) : s.toList.isEmpty = false := by simpa using ne_ofpos h
theorem ret_i {k : IntKind} {a b : Int} (h : a = b) : Ending.returned (.int k a) = .returned (.int k b) := by rw [h]
theorem ret_b {a b : Bool} (h : a = b) : Ending.returned (.bool a) = .returned (.bool b) := by rw [h]
theorem bcell {W w1 : World} (hb : Below W.heap.size W w1) : (∀ b o, b < W.heap.size → w1.cell? ⟨b, o, none⟩ = W.cell? ⟨b, o, none⟩) ∧ (∀ b o, b < W.heap.size → w1.frozen? ⟨b, o, none⟩ = W.frozen? ⟨b, o, none⟩) :=
  ⟨fun b o h => hb.cell (p := ⟨b, o, none⟩) h, fun b o h => hb.frozen (p := ⟨b, o, none⟩) h⟩
theorem Below.link {a b c : World} (h : Below a.heap.size a b) (k : Below b.heap.size b c) : Below a.heap.size a c := h.trans (k.mono h.size)
theorem keepc {W w' : World} {B q i : Nat} {v : Value} (hb : Below W.heap.size W w') (hq : q < B) (hB : B ≤ W.heap.size) (h : W.cell? ⟨q, i, none⟩ = some v) : w'.cell? ⟨q, i, none⟩ = some v :=
  (hb.cell (p := ⟨q, i, none⟩) (Nat.lt_of_lt_of_le hq hB)).trans h
theorem lt_of_block {w : World} {b : Nat} {o : Obj} (h : w.heap[b]? = some o) : b < w.heap.size := (Array.getElem?_eq_some_iff.1 h).1
theorem heap_new (w : World) (o : Obj) : (w.alloc o).heap[w.heap.size]? = some o := by
  show (w.heap.push o)[w.heap.size]? = _
  simp
theorem heap_alloc_lt {w : World} {o : Obj} {k : Nat} {x : Obj} (h : w.heap[k]? = some x) : (w.alloc o).heap[k]? = some x := (Below.heap_alloc _ _ _ (lt_of_block h)).trans h
theorem heap_set_ne {w : World} {a : Addr} {u : Value} {k : Nat} {x : Obj} (hk : k ≠ a.block) (h : w.heap[k]? = some x) : (w.setCell a u).heap[k]? = some x := (Below.heap_setCell _ _ _ _ hk).trans h
theorem heap_set_eq {w : World} {b i : Nat} {u : Value} {cs : Array Value} {t : TypeId} {m : Nat × Nat} (h : w.heap[b]? = some (.cells cs t m)) (hi : i < cs.size) : (w.setCell ⟨b, i, none⟩ u).heap[b]? = some (.cells (cs.setIfInBounds i u) t m) := by
  have hlt := lt_of_block h
  simp only [World.setCell, Array.getElem?_modify, h]
  simp
theorem cells_of {w : World} {b : Nat} {cs : Array Value} {t : TypeId} (h : w.heap[b]? = some (.cells cs t (0, 0))) (i : Nat) : w.cell? ⟨b, i, none⟩ = cs[i]? := by simp [World.cell?, h]
theorem free_of {w : World} {b : Nat} {cs : Array Value} {t : TypeId} (h : w.heap[b]? = some (.cells cs t (0, 0))) (i : Nat) : w.frozen? ⟨b, i, none⟩ = false := by simp [World.frozen?, h]
theorem le_alloc {B : Nat} {w : World} (h : B ≤ w.heap.size) (o : Obj) : B ≤ (w.alloc o).heap.size := by simp; omega
theorem block_of_add (a : Addr) (n : Nat) : (a.add n).block = a.block := by unfold Addr.add; split <;> rfl
theorem plain_add (b o j : Nat) : ({ block := b, off := o } : Addr).add j = ⟨b, o + j, none⟩ := by
  unfold Addr.add
  by_cases h : j = 0 <;> simp [h]
theorem new_cells (w : World) (cs : List Value) (t : TypeId) : ∀ j u, cs[j]? = some u → (w.alloc (.cells cs.toArray t)).cell? (({ block := w.heap.size, off := 0 } : Addr).add j) = some u := by
  intro j u h
  rw [plain_add]
  have := World.cell?_alloc_mark w cs.toArray t (0, 0) j
  rw [Nat.zero_add, this]
  simpa using h
theorem own_below {w w' : World} {base : Nat} {e : TypeId} {size : Nat} {v : Value} {n : Nat} {xs : List Value} (own : w.ownsRow base e size v n xs) (h : Below w.heap.size w w') : w'.ownsRow base e size v n xs :=
  own.kept (row := none) ⟨h.os, h.tape, h.output, h.size, fun k hk _ => h.block k hk⟩ (by
    cases hv : v.ownBlock with
    | none => exact .inl rfl
    | some g => exact .inr (by simp))
theorem own_form {w : World} {base : Nat} {t : TypeId} {s : Nat} {v : Value} {n : Nat} {xs : List Value} (h : w.ownsRow base t s v n xs) : ∃ a c, v = .slice a n c := by
  rcases h.2 with ⟨rfl, h0⟩ | ⟨g, cap, cur, rfl, hr⟩
  · exact ⟨_, _, by rw [h0]⟩
  · exact ⟨_, _, rfl⟩
theorem own_ne {w : World} {base : Nat} {e : TypeId} {size : Nat} {v : Value} {n : Nat} {xs : List Value} (h : w.ownsRow base e size v n xs) {q : Nat} {cs : Array Value} {t : TypeId} {m : Nat × Nat} (hq : w.heap[q]? = some (.cells cs t m)) (ht : t ≠ e) : v.ownBlock ≠ some q := by
  rcases h.2 with ⟨rfl, _⟩ | ⟨g, cap, cur, rfl, _, hgg, _⟩
  · simp [Value.ownBlock]
  · intro e1
    simp [Value.ownBlock] at e1
    subst e1
    rw [hgg] at hq
    simp only [Option.some.injEq, Obj.cells.injEq] at hq
    exact ht hq.2.1.symm
theorem own_block_ge {w : World} {base : Nat} {e : TypeId} {size : Nat} {v : Value} {n : Nat} {xs : List Value} (h : w.ownsRow base e size v n xs) : ∀ k, v.ownBlock = some k → base ≤ k := by
  intro k hk
  rcases h.2 with ⟨rfl, _⟩ | ⟨g, cap, cur, rfl, hb, _⟩
  · cases hk
  · injection hk with hk
    subst hk
    exact hb
theorem own_mono {w : World} {base base' : Nat} {e : TypeId} {size : Nat} {v : Value} {n : Nat} {xs : List Value} (h : w.ownsRow base e size v n xs) (hb : base' ≤ base) : w.ownsRow base' e size v n xs := by
  obtain ⟨h1, h2⟩ := h
  refine ⟨h1, ?_⟩
  rcases h2 with h2 | ⟨g, cap, cur, hv, hg, r⟩
  · exact .inl h2
  · exact .inr ⟨g, cap, cur, hv, Nat.le_trans hb hg, r⟩
/-- A slice that was just laid, full. -/
theorem own_new {w : World} {b base : Nat} {e : TypeId} {size n : Nat} {cs : List Value} (h : w.heap[b]? = some (.cells cs.toArray e (0, 0))) (hb : base ≤ b) (hl : cs.length = n * size) (hn : n ≤ maxLen) : w.ownsRow base e size (.slice (some ⟨b, 0, none⟩) n n) n cs :=
  ⟨hl, .inr ⟨b, n, cs.toArray, rfl, hb, h, Nat.le_refl _, hn, by simp [hl], by simp [← hl]⟩⟩
/-- Below block 'base' all is as it was; so is each block that holds no cells of type T, wherever it lies. -/
structure Kept (T : TypeId) (base : Nat) (w w' : World) : Prop where
  below : Below base w w'
  other : ∀ (k : Nat) (cs : Array Value) (t : TypeId) (m : Nat × Nat), t ≠ T → w.heap[k]? = some (.cells cs t m) → w'.heap[k]? = some (.cells cs t m)
section
variable {T : TypeId} {base : Nat} {a b c w w' : World}
theorem Kept.refl (T : TypeId) (base : Nat) (w : World) : Kept T base w w := ⟨Below.refl _ _, fun _ _ _ _ _ h => h⟩
theorem Kept.trans (h : Kept T base a b) (k : Kept T base b c) : Kept T base a c := ⟨h.below.trans k.below, fun i cs t m ht e => k.other i cs t m ht (h.other i cs t m ht e)⟩
theorem Kept.of_below (h : Below w.heap.size w w') (hb : base ≤ w.heap.size) : Kept T base w w' := ⟨h.mono hb, fun k cs t m _ e => (h.block k (lt_of_block e)).trans e⟩
theorem Kept.alloc (h : Kept T base a w) (hB : base ≤ w.heap.size) (o : Obj) : Kept T base a (w.alloc o) := h.trans (Kept.of_below ((Below.refl _ _).alloc (Nat.le_refl _) o) hB)
theorem Kept.drew (h : Kept T base a w) : Kept T base a w.drew := ⟨h.below.drew, h.other⟩
theorem Kept.size (h : Kept T base a w) : a.heap.size ≤ w.heap.size := h.below.size
theorem Kept.link (h : Kept T base a w) (hb : base ≤ w.heap.size) (k : Below w.heap.size w w') : Kept T base a w' := h.trans (Kept.of_below k hb)
theorem own_kept {base' : Nat} {e : TypeId} {size : Nat} {v : Value} {n : Nat} {xs : List Value} (h : w.ownsRow base' e size v n xs) (he : e ≠ T) (k : Kept T base w w') : w'.ownsRow base' e size v n xs := by
  obtain ⟨h1, h2⟩ := h
  refine ⟨h1, ?_⟩
  rcases h2 with h2 | ⟨g, cap, cur, hv, hg, hgg, r⟩
  · exact .inl h2
  · exact .inr ⟨g, cap, cur, hv, hg, k.other _ _ _ _ he hgg, r⟩
theorem own_grown {size : Nat} {v : Value} {n : Nat} {xs : List Value} (h : w.ownsRow base T size v n xs) (hb : base ≤ w.heap.size) (hg : w.grownBy w' v.ownBlock) : Kept T base w w' := by
  refine ⟨(Below.refl base w).grown hg hb (own_block_ge h), fun k cs t m ht e => (hg.block k (lt_of_block e) ?_).trans e⟩
  intro e1
  exact own_ne h e ht e1.symm
end
/-- All blocks but two are as they were. -/
structure But (b c : Nat) (w w' : World) : Prop where
  os : w'.os = w.os
  tape : w'.tape = w.tape
  output : w'.output = w.output
  size : w.heap.size ≤ w'.heap.size
  block : ∀ k, k < w.heap.size → k ≠ b → k ≠ c → w'.heap[k]? = w.heap[k]?
section
variable {b c : Nat} {w w' w1 : World}
theorem But.refl (b c : Nat) (w : World) : But b c w w := ⟨rfl, rfl, rfl, Nat.le_refl _, fun _ _ _ _ => rfl⟩
theorem But.trans (h : But b c w w1) (k : But b c w1 w') : But b c w w' :=
  ⟨k.os.trans h.os, k.tape.trans h.tape, k.output.trans h.output, Nat.le_trans h.size k.size, fun i hi h1 h2 => (k.block i (Nat.lt_of_lt_of_le hi h.size) h1 h2).trans (h.block i hi h1 h2)⟩
theorem But.of_below (h : Below w.heap.size w w') : But b c w w' := ⟨h.os, h.tape, h.output, h.size, fun k hk _ _ => h.block k hk⟩
theorem But.link (h : But b c w w1) (k : Below w1.heap.size w1 w') : But b c w w' := h.trans (But.of_below k)
theorem But.alloc (h : But b c w w1) (o : Obj) : But b c w (w1.alloc o) := h.link ((Below.refl _ _).alloc (Nat.le_refl _) o)
theorem But.set (h : But b c w w1) {i : Nat} {u : Value} (d : Nat) (hd : d = b ∨ d = c) : But b c w (w1.setCell ⟨d, i, none⟩ u) :=
  h.trans ⟨rfl, rfl, rfl, by simp [World.setCell], fun k hk h1 h2 => Below.heap_setCell _ _ _ _ (by rcases hd with rfl | rfl <;> assumption)⟩
theorem But.keep (h : But b c w w') {k : Nat} {x : Obj} (h1 : k ≠ b) (h2 : k ≠ c) (e : w.heap[k]? = some x) : w'.heap[k]? = some x := (h.block k (lt_of_block e) h1 h2).trans e
theorem But.below (h : But b c w w') {B : Nat} (hB : B ≤ w.heap.size) (hb : B ≤ b) (hc : B ≤ c) : Below B w w' :=
  ⟨h.os, h.tape, h.output, h.size, fun k hk => h.block k (by omega) (by omega) (by omega)⟩
theorem But.swap (h : But b c w w') : But c b w w' := ⟨h.os, h.tape, h.output, h.size, fun k hk h1 h2 => h.block k hk h2 h1⟩
theorem own_but {base : Nat} {e : TypeId} {size : Nat} {v : Value} {n : Nat} {xs : List Value} (h : w.ownsRow base e size v n xs) (k : But b c w w') (hb : v.ownBlock ≠ some b) (hc : v.ownBlock ≠ some c) : w'.ownsRow base e size v n xs := by
  obtain ⟨h1, h2⟩ := h
  refine ⟨h1, ?_⟩
  rcases h2 with h2 | ⟨g, cap, cur, hv, hg, hgg, r⟩
  · exact .inl h2
  · subst hv
    exact .inr ⟨g, cap, cur, rfl, hg, k.keep (by rintro rfl; exact hb rfl) (by rintro rfl; exact hc rfl) hgg, r⟩
end
def icells (l : List Int) : List Value := l.map fun (r : Int) => .int .i64 r
theorem icells_append (a b : List Int) : icells (a ++ b) = icells a ++ icells b := by simp [icells]
theorem icells_length (a : List Int) : (icells a).length = a.length := by simp [icells]
theorem int_cells (k : IntKind) (l : List Int) : ∀ u ∈ l.map (Value.int k), u.oneCell' = true := by
  intro u hu
  obtain ⟨x, _, rfl⟩ := List.mem_map.1 hu
  rfl
/-- The call's own row of ints. -/
def IOwn (w : World) (base : Nat) (v : Value) (l : List Int) : Prop := w.ownsRow base 3 1 v l.length (icells l)
theorem IOwn.nil (w : World) (base : Nat) : IOwn w base (.slice none 0 0) [] := World.ownsRow_nil _ _ _ _
theorem IOwn.form {w : World} {base : Nat} {v : Value} {l : List Int} (h : IOwn w base v l) : ∃ a c, v = .slice a l.length c := own_form h
/-- The slice's first n elements, each of so many cells, are the cells xs; they lie below block B. -/
def Reads (w : World) (B size : Nat) (A : Option Addr) (n : Nat) (xs : List Value) : Prop :=
  xs.length = n * size ∧ (0 < n → ∃ b o, A = some ⟨b, o, none⟩ ∧ b < B ∧ ∀ j u, xs[j]? = some u → w.cell? ⟨b, o + j, none⟩ = some u)
section
variable {w w' : World} {B B' size n : Nat} {A : Option Addr} {xs : List Value}
theorem Reads.keep (h : Reads w B size A n xs) (hk : ∀ p : Addr, p.block < B → w'.cell? p = w.cell? p) : Reads w' B size A n xs :=
  ⟨h.1, fun hn => by
    obtain ⟨b, o, e, hb, hc⟩ := h.2 hn
    exact ⟨b, o, e, hb, fun j u hu => (hk _ hb).trans (hc j u hu)⟩⟩
theorem Reads.more (h : Reads w B size A n xs) (hB : B ≤ B') : Reads w B' size A n xs :=
  ⟨h.1, fun hn => by
    obtain ⟨b, o, e, hb, hc⟩ := h.2 hn
    exact ⟨b, o, e, by omega, hc⟩⟩
theorem Reads.of_own {base : Nat} {e : TypeId} {c : Nat} (h : w.ownsRow base e size (.slice A n c) n xs) : Reads w w.heap.size size A n xs := by
  refine ⟨h.1, fun hn => ?_⟩
  obtain ⟨g, cap, hv, _, hlt⟩ := h.form hn
  have hA : A = some ⟨g, 0, none⟩ := by injection hv
  subst hA
  refine ⟨g, 0, rfl, hlt, fun j u hu => ?_⟩
  have := h.cells (g := g) rfl j u hu
  rwa [plain_add] at this
end
/-- The slice value v has n elements, of so many cells each: the cells xs. -/
def Row (B size : Nat) (w : World) (v : Value) (n : Nat) (xs : List Value) : Prop :=
  ∃ A cap, v = .slice A n cap ∧ n ≤ cap ∧ n ≤ maxLen ∧ Reads w B size A n xs
theorem Row.keep {B size n : Nat} {w w' : World} {v : Value} {xs : List Value} (h : Row B size w v n xs) (hk : ∀ p : Addr, p.block < B → w'.cell? p = w.cell? p) : Row B size w' v n xs := by
  obtain ⟨A, cap, h1, h2, h3, h4⟩ := h
  exact ⟨A, cap, h1, h2, h3, h4.keep hk⟩
theorem Row.more {B B' size n : Nat} {w : World} {v : Value} {xs : List Value} (h : Row B size w v n xs) (hB : B ≤ B') : Row B' size w v n xs := by
  obtain ⟨A, cap, h1, h2, h3, h4⟩ := h
  exact ⟨A, cap, h1, h2, h3, h4.more hB⟩
theorem Row.of_own {w : World} {base : Nat} {e : TypeId} {size n : Nat} {v : Value} {xs : List Value} (h : w.ownsRow base e size v n xs) : Row w.heap.size size w v n xs := by
  obtain ⟨a, c, rfl⟩ := own_form h
  refine ⟨a, c, rfl, ?_, ?_, Reads.of_own h⟩
  · rcases h.2 with ⟨e, h0⟩ | ⟨g, cap, cur, e, _, _, hc, _⟩
    · omega
    · injection e with _ _ e3; omega
  · rcases h.2 with ⟨e, h0⟩ | ⟨g, cap, cur, e, _, _, hc, hm, _⟩
    · unfold maxLen; omega
    · omega
def IRow (B : Nat) (w : World) (v : Value) (is : List Int) : Prop := Row B 1 w v is.length (icells is)
theorem IRow.form {B : Nat} {w : World} {v : Value} {l : List Int} (h : IRow B w v l) : ∃ A c, v = .slice A l.length c ∧ l.length ≤ c ∧ l.length ≤ maxLen := by
  obtain ⟨A, c, e, h1, h2, _⟩ := h
  exact ⟨A, c, e, h1, h2⟩
theorem IRow.below {B B' : Nat} {w w' : World} {v : Value} {l : List Int} (h : IRow B w v l) (hb : Below B' w w') (hB : B ≤ B') : IRow B w' v l := Row.keep h fun p hp => hb.cell (p := p) (by omega)
theorem IRow.alloc {B : Nat} {w : World} {v : Value} {l : List Int} (h : IRow B w v l) (hB : B ≤ w.heap.size) (o : Obj) : IRow B (w.alloc o) v l := Row.keep h fun p hp => World.cell?_alloc_lt w o p (by omega)
theorem flat_at {α : Type} (f : α → List Value) (size : Nat) (hs : ∀ x, (f x).length = size) : ∀ (l : List α) (k : Nat) (x : α), l[k]? = some x → ∀ j, j < size → (l.flatMap f)[k * size + j]? = (f x)[j]?
  | [], k, x, h, _, _ => by simp at h
  | y :: l, 0, x, h, j, hj => by
    simp only [List.getElem?_cons_zero, Option.some.injEq] at h
    subst h
    rw [List.flatMap_cons, Nat.zero_mul, Nat.zero_add, List.getElem?_append_left (by rw [hs]; exact hj)]
  | y :: l, k + 1, x, h, j, hj => by
    simp only [List.getElem?_cons_succ] at h
    rw [List.flatMap_cons, List.getElem?_append_right (by rw [hs, Nat.succ_mul]; omega)]
    rw [hs, show (k + 1) * size + j - size = k * size + j by rw [Nat.succ_mul]; omega]
    exact flat_at f size hs l k x h j hj
theorem IRow.at_ {B : Nat} {w : World} {A : Option Addr} {n cap : Nat} {is : List Int} {k : Nat} {c : Int} (h : IRow B w (.slice A n cap) is) (hk : is[k]? = some c) :
    ∃ b o, A = some ⟨b, o, none⟩ ∧ b < B ∧ w.cell? ⟨b, o + k, none⟩ = some (.int .i64 c) := by
  obtain ⟨A', cap', e, _, _, _, h2⟩ := h
  injection e with e1 e2 e3
  subst e1
  have hl : k < is.length := (List.getElem?_eq_some_iff.1 hk).1
  obtain ⟨b, o, e, hb, hc⟩ := h2 (by omega)
  exact ⟨b, o, e, hb, hc _ _ (by unfold icells; rw [List.getElem?_map, hk]; rfl)⟩
/-! ### rows of bools, of bytes, of maps -/
def bcells (l : List Bool) : List Value := l.map Value.bool
theorem bcells_len (l : List Bool) : (bcells l).length = l.length := by simp [bcells]
theorem bcells_app (a b : List Bool) : bcells (a ++ b) = bcells a ++ bcells b := by simp [bcells]
theorem bcells_one (l : List Bool) : ∀ u ∈ bcells l, u.oneCell' = true := by
  intro u hu
  obtain ⟨x, _, rfl⟩ := List.mem_map.1 hu
  rfl
def BRow (B : Nat) (w : World) (v : Value) (l : List Bool) : Prop := Row B 1 w v l.length (bcells l)
theorem BRow.form {B : Nat} {w : World} {v : Value} {l : List Bool} (h : BRow B w v l) : ∃ A c, v = .slice A l.length c ∧ l.length ≤ c ∧ l.length ≤ maxLen := by
  obtain ⟨A, c, e, h1, h2, _⟩ := h
  exact ⟨A, c, e, h1, h2⟩
theorem BRow.at_ {B : Nat} {w : World} {A : Option Addr} {n cap : Nat} {l : List Bool} {k : Nat} {c : Bool} (h : BRow B w (.slice A n cap) l) (hk : l[k]? = some c) :
    ∃ b o, A = some ⟨b, o, none⟩ ∧ b < B ∧ w.cell? ⟨b, o + k, none⟩ = some (.bool c) := by
  obtain ⟨A', cap', e, _, _, _, h2⟩ := h
  injection e with e1 e2 e3
  subst e1
  have hl : k < l.length := (List.getElem?_eq_some_iff.1 hk).1
  obtain ⟨b, o, e, hb, hc⟩ := h2 (by omega)
  exact ⟨b, o, e, hb, hc _ _ (by unfold bcells; rw [List.getElem?_map, hk]; rfl)⟩
theorem BRow.below {B B' : Nat} {w w' : World} {v : Value} {l : List Bool} (h : BRow B w v l) (hb : Below B' w w') (hB : B ≤ B') : BRow B w' v l := Row.keep h fun p hp => hb.cell (p := p) (by omega)
theorem BRow.more {B B' : Nat} {w : World} {v : Value} {l : List Bool} (h : BRow B w v l) (hB : B ≤ B') : BRow B' w v l := Row.more h hB
theorem BRow.keep {B : Nat} {w w' : World} {v : Value} {l : List Bool} (h : BRow B w v l) (hk : ∀ p : Addr, p.block < B → w'.cell? p = w.cell? p) : BRow B w' v l := Row.keep h hk
def ucells (l : List UInt8) : List Value := l.map fun c => .int .u8 c.toNat
theorem ucells_app (a b : List UInt8) : ucells (a ++ b) = ucells a ++ ucells b := by simp [ucells]
theorem ucells_len (l : List UInt8) : (ucells l).length = l.length := by simp [ucells]
theorem ucells_one (l : List UInt8) : ∀ u ∈ ucells l, u.oneCell' = true := by
  intro u hu
  obtain ⟨x, _, rfl⟩ := List.mem_map.1 hu
  rfl
/-- The slice value v is the call's own row of the bytes l. -/
def OwnB (w : World) (base : Nat) (v : Value) (l : List UInt8) : Prop := w.ownsRow base 5 1 v l.length (ucells l)
theorem OwnB.app {w : World} {base : Nat} {v : Value} {l : List UInt8} (h : OwnB w base v l) : w.ownsRow base 5 1 v l.length (ucells l) := h
theorem OwnB.below {w w' : World} {base : Nat} {v : Value} {l : List UInt8} (h : OwnB w base v l) (hb : Below w.heap.size w w') : OwnB w' base v l := own_below h hb
theorem OwnB.form {w : World} {base : Nat} {v : Value} {l : List UInt8} (h : OwnB w base v l) : ∃ a c, v = .slice a l.length c := own_form h
theorem OwnB.more {w : World} {base : Nat} {v : Value} {l m : List UInt8} {cs : List Value} {N : Nat} (h : w.ownsRow base 5 1 v N (ucells l ++ cs)) (hm : ucells m = cs) (hN : N = l.length + m.length) : OwnB w base v (l ++ m) := by
  subst hm
  unfold OwnB
  rw [List.length_append, ucells_app, ← hN]
  exact h
/-- The call's own row of bools. -/
def OwnL (w : World) (base : Nat) (v : Value) (l : List Bool) : Prop := w.ownsRow base 4 1 v l.length (bcells l)
theorem OwnL.below {w w' : World} {base : Nat} {v : Value} {l : List Bool} (h : OwnL w base v l) (hb : Below w.heap.size w w') : OwnL w' base v l := own_below h hb
theorem OwnL.form {w : World} {base : Nat} {v : Value} {l : List Bool} (h : OwnL w base v l) : ∃ a c, v = .slice a l.length c := own_form h
theorem OwnL.row {w : World} {base : Nat} {v : Value} {l : List Bool} (h : OwnL w base v l) : BRow w.heap.size w v l := Row.of_own h
def mcells (p : Value × Value) : List Value := [p.1, p.2]
def MSub (R : Value → List Bool → Prop) (l : List MP) (ps : List (Value × Value)) : Prop :=
  ps.length = l.length ∧ ∀ (i : Nat) (x : MP) (p : Value × Value), l[i]? = some x → ps[i]? = some p → R p.1 x.1 ∧ R p.2 x.2
theorem MSub.imp {R S : Value → List Bool → Prop} {l : List MP} {ps : List (Value × Value)} (h : MSub R l ps) (k : ∀ v l, R v l → S v l) : MSub S l ps := ⟨h.1, fun i x p a b => ⟨k _ _ (h.2 i x p a b).1, k _ _ (h.2 i x p a b).2⟩⟩
theorem MSub.nil {R : Value → List Bool → Prop} : MSub R [] [] := ⟨rfl, fun i x p h => by simp at h⟩
theorem MSub.snoc {R : Value → List Bool → Prop} {l : List MP} {ps : List (Value × Value)} (h : MSub R l ps) {x : MP} {p : Value × Value} (h1 : R p.1 x.1) (h2 : R p.2 x.2) : MSub R (l ++ [x]) (ps ++ [p]) := by
  refine ⟨by simp [h.1], fun i y p' a b => ?_⟩
  by_cases hi : i < l.length
  · rw [List.getElem?_append_left hi] at a
    rw [List.getElem?_append_left (by rw [h.1]; exact hi)] at b
    exact h.2 i y p' a b
  · rw [List.getElem?_append_right (by omega)] at a
    rw [List.getElem?_append_right (by rw [h.1]; omega), h.1] at b
    have hz : i - l.length = 0 := by
      have := (List.getElem?_eq_some_iff.1 a).1
      simp at this
      omega
    rw [hz] at a b
    simp only [List.getElem?_cons_zero, Option.some.injEq] at a b
    subst a; subst b
    exact ⟨h1, h2⟩
/-- A row of maps that is read. -/
def MRow (B : Nat) (w : World) (v : Value) (l : List MP) : Prop := ∃ ps, MSub (BRow B w) l ps ∧ Row B 2 w v l.length (ps.flatMap mcells)
theorem MRow.form {B : Nat} {w : World} {v : Value} {l : List MP} (h : MRow B w v l) : ∃ A c, v = .slice A l.length c ∧ l.length ≤ c ∧ l.length ≤ maxLen := by
  obtain ⟨ps, _, A, c, e, h1, h2, _⟩ := h
  exact ⟨A, c, e, h1, h2⟩
theorem MRow.keep {B : Nat} {w w' : World} {v : Value} {l : List MP} (h : MRow B w v l) (hk : ∀ p : Addr, p.block < B → w'.cell? p = w.cell? p) : MRow B w' v l := by
  obtain ⟨ps, h1, h2⟩ := h
  exact ⟨ps, h1.imp fun _ _ h => Row.keep h hk, h2.keep hk⟩
theorem MRow.below {B B' : Nat} {w w' : World} {v : Value} {l : List MP} (h : MRow B w v l) (hb : Below B' w w') (hB : B ≤ B') : MRow B w' v l := h.keep fun p hp => hb.cell (p := p) (by omega)
theorem MRow.more {B B' : Nat} {w : World} {v : Value} {l : List MP} (h : MRow B w v l) (hB : B ≤ B') : MRow B' w v l := by
  obtain ⟨ps, h1, h2⟩ := h
  exact ⟨ps, h1.imp fun _ _ h => Row.more h hB, h2.more hB⟩
theorem MRow.at_ {B : Nat} {w : World} {A : Option Addr} {n cap : Nat} {l : List MP} {k : Nat} {x : MP} (h : MRow B w (.slice A n cap) l) (hk : l[k]? = some x) :
    ∃ b o A1 c1 A2 c2, A = some ⟨b, o, none⟩ ∧ b < B ∧ BRow B w (.slice A1 x.1.length c1) x.1 ∧ BRow B w (.slice A2 x.2.length c2) x.2 ∧
      w.cell? ⟨b, o + k * 2, none⟩ = some (.slice A1 x.1.length c1) ∧ w.cell? ⟨b, o + k * 2 + 1, none⟩ = some (.slice A2 x.2.length c2) := by
  obtain ⟨ps, ⟨hl1, hr⟩, A', cap', e, _, _, _, h2⟩ := h
  injection e with e1 e2 e3
  subst e1
  have hl : k < l.length := (List.getElem?_eq_some_iff.1 hk).1
  obtain ⟨b, o, e, hb, hc⟩ := h2 (by omega)
  have hv : ps[k]? = some (ps[k]'(by omega)) := List.getElem?_eq_getElem (by omega)
  obtain ⟨r1, r2⟩ := hr k x _ hk hv
  generalize ps[k]'(by omega) = hx at hv r1 r2
  obtain ⟨A1, c1, e1, _⟩ := id r1
  obtain ⟨A2, c2, e2, _⟩ := id r2
  have key : ∀ j u, j < 2 → (mcells hx)[j]? = some u → w.cell? ⟨b, o + k * 2 + j, none⟩ = some u := fun j u hj hu => by
    rw [Nat.add_assoc]
    exact hc _ _ ((flat_at mcells 2 (fun _ => rfl) _ k _ hv j hj).trans hu)
  rw [e1] at r1
  rw [e2] at r2
  exact ⟨b, o, A1, c1, A2, c2, e, hb, r1, r2, key 0 _ (by omega) (by rw [← e1]; rfl), key 1 _ (by omega) (by rw [← e2]; rfl)⟩
/-- A row of rows of bools that is read. -/
def BBRow (B : Nat) (w : World) (v : Value) (ll : List (List Bool)) : Prop :=
  ∃ ps : List Value, ps.length = ll.length ∧ (∀ (i : Nat) (l : List Bool) (p : Value), ll[i]? = some l → ps[i]? = some p → BRow B w p l) ∧ Row B 1 w v ll.length ps
theorem BBRow.form {B : Nat} {w : World} {v : Value} {l : List (List Bool)} (h : BBRow B w v l) : ∃ A c, v = .slice A l.length c ∧ l.length ≤ c ∧ l.length ≤ maxLen := by
  obtain ⟨_, _, _, A, c, e, h1, h2, _⟩ := h
  exact ⟨A, c, e, h1, h2⟩
theorem BBRow.keep {B : Nat} {w w' : World} {v : Value} {l : List (List Bool)} (h : BBRow B w v l) (hk : ∀ p : Addr, p.block < B → w'.cell? p = w.cell? p) : BBRow B w' v l := by
  obtain ⟨ps, h0, h1, h2⟩ := h
  exact ⟨ps, h0, fun i l p a b => Row.keep (h1 i l p a b) hk, h2.keep hk⟩
theorem BBRow.below {B B' : Nat} {w w' : World} {v : Value} {l : List (List Bool)} (h : BBRow B w v l) (hb : Below B' w w') (hB : B ≤ B') : BBRow B w' v l := h.keep fun p hp => hb.cell (p := p) (by omega)
theorem BBRow.more {B B' : Nat} {w : World} {v : Value} {l : List (List Bool)} (h : BBRow B w v l) (hB : B ≤ B') : BBRow B' w v l := by
  obtain ⟨ps, h0, h1, h2⟩ := h
  exact ⟨ps, h0, fun i l p a b => Row.more (h1 i l p a b) hB, h2.more hB⟩
theorem BBRow.at_ {B : Nat} {w : World} {A : Option Addr} {n cap : Nat} {ll : List (List Bool)} {k : Nat} {l : List Bool} (h : BBRow B w (.slice A n cap) ll) (hk : ll[k]? = some l) :
    ∃ b o Ak ck, A = some ⟨b, o, none⟩ ∧ b < B ∧ BRow B w (.slice Ak l.length ck) l ∧ w.cell? ⟨b, o + k, none⟩ = some (.slice Ak l.length ck) := by
  obtain ⟨ps, hl, hr, A', cap', e, _, _, _, h2⟩ := h
  injection e with e1 e2 e3
  subst e1
  have hlt : k < ll.length := (List.getElem?_eq_some_iff.1 hk).1
  obtain ⟨b, o, e, hb, hc⟩ := h2 (by omega)
  have hv : ps[k]? = some (ps[k]'(by omega)) := List.getElem?_eq_getElem (by omega)
  have r := hr k l _ hk hv
  generalize ps[k]'(by omega) = hx at hv r
  obtain ⟨Ak, ck, e1, _⟩ := id r
  subst e1
  exact ⟨b, o, Ak, ck, e, hb, r, hc _ _ hv⟩
end Go.Proofs.Ytgepgbpjdjbelaa
