/-
  MEMORY: rows of bools, of handlers, of rows of ints; rows of ints that grow within a row. No walk in it.
-/
import Derived.Test.YtbeelcklbdnjnaaF1
set_option linter.unusedVariables false
set_option linter.unusedSimpArgs false
namespace Go.Proofs.Ytbeelcklbdnjnaa
open Go.RowKit

def bcells (l : List Bool) : List Value := l.map Value.bool
def BRow (B : Nat) (w : World) (v : Value) (l : List Bool) : Prop := Row B 1 w v l.length (bcells l)
theorem BRow.form {B : Nat} {w : World} {v : Value} {l : List Bool} (h : BRow B w v l) : ∃ A c, v = .slice A l.length c ∧ l.length ≤ c ∧ l.length ≤ maxLen := by
  obtain ⟨A, c, e, h1, h2, _⟩ := h
  exact ⟨A, c, e, h1, h2⟩
theorem BRow.at_ {B : Nat} {w : World} {A : Option Addr} {n cap : Nat} {l : List Bool} {k : Nat} {c : Bool} (h : BRow B w (.slice A n cap) l) (hk : l[k]? = some c) :
    ∃ b o, A = some ⟨b, o, none⟩ ∧ b < B ∧ w.cell? ⟨b, o + k, none⟩ = some (.bool c) := by
  obtain ⟨A', cap', e, _, _, _, h2⟩ := h
  injection e with e1 e2 e3
  subst e1
  have hl : k < l.length := (List.getElem?_eq_some_iff.1 hk).1
  obtain ⟨b, o, e, hb, hc⟩ := h2 (by omega)
  exact ⟨b, o, e, hb, hc _ _ (by unfold bcells; rw [List.getElem?_map, hk]; rfl)⟩
theorem BRow.below {B B' : Nat} {w w' : World} {v : Value} {l : List Bool} (h : BRow B w v l) (hb : Below B' w w') (hB : B ≤ B') : BRow B w' v l := Row.keep h fun p hp => hb.cell (p := p) (by omega)
theorem BRow.more {B B' : Nat} {w : World} {v : Value} {l : List Bool} (h : BRow B w v l) (hB : B ≤ B') : BRow B' w v l := Row.more h hB
def hcells (h : Hd) : List Value := [.int .i64 h.frm, .int .i64 h.to, .int .i64 h.at_, .int .i64 h.cls]
def HRow (B : Nat) (w : World) (v : Value) (hs : List Hd) : Prop := Row B 4 w v hs.length (hs.flatMap hcells)
theorem HRow.form {B : Nat} {w : World} {v : Value} {l : List Hd} (h : HRow B w v l) : ∃ A c, v = .slice A l.length c ∧ l.length ≤ c ∧ l.length ≤ maxLen := by
  obtain ⟨A, c, e, h1, h2, _⟩ := h
  exact ⟨A, c, e, h1, h2⟩
theorem HRow.at_ {B : Nat} {w : World} {A : Option Addr} {n cap : Nat} {l : List Hd} {k : Nat} {x : Hd} (h : HRow B w (.slice A n cap) l) (hk : l[k]? = some x) :
    ∃ b o, A = some ⟨b, o, none⟩ ∧ b < B ∧ w.cell? ⟨b, o + k * 4, none⟩ = some (.int .i64 x.frm) ∧ w.cell? ⟨b, o + k * 4 + 1, none⟩ = some (.int .i64 x.to) ∧ w.cell? ⟨b, o + k * 4 + 2, none⟩ = some (.int .i64 x.at_) ∧ w.cell? ⟨b, o + k * 4 + 3, none⟩ = some (.int .i64 x.cls) := by
  obtain ⟨A', cap', e, _, _, _, h2⟩ := h
  injection e with e1 e2 e3
  subst e1
  have hl : k < l.length := (List.getElem?_eq_some_iff.1 hk).1
  obtain ⟨b, o, e, hb, hc⟩ := h2 (by omega)
  have key : ∀ j u, j < 4 → (hcells x)[j]? = some u → w.cell? ⟨b, o + k * 4 + j, none⟩ = some u := fun j u hj hu => by
    rw [Nat.add_assoc]
    exact hc _ _ ((flat_at hcells 4 (fun _ => rfl) _ k _ hk j hj).trans hu)
  exact ⟨b, o, e, hb, key 0 _ (by omega) rfl, key 1 _ (by omega) rfl, key 2 _ (by omega) rfl, key 3 _ (by omega) rfl⟩
theorem HRow.below {B B' : Nat} {w w' : World} {v : Value} {l : List Hd} (h : HRow B w v l) (hb : Below B' w w') (hB : B ≤ B') : HRow B w' v l := Row.keep h fun p hp => hb.cell (p := p) (by omega)
theorem HRow.more {B B' : Nat} {w : World} {v : Value} {l : List Hd} (h : HRow B w v l) (hB : B ≤ B') : HRow B' w v l := Row.more h hB
/-- A row of rows of ints, that is read. -/
def LRow (B : Nat) (w : World) (v : Value) (ll : List (List Int)) : Prop :=
  ∃ ps : List Value, ps.length = ll.length ∧ (∀ (i : Nat) (l : List Int) (p : Value), ll[i]? = some l → ps[i]? = some p → IRow B w p l) ∧ Row B 1 w v ll.length ps
theorem LRow.form {B : Nat} {w : World} {v : Value} {l : List (List Int)} (h : LRow B w v l) : ∃ A c, v = .slice A l.length c ∧ l.length ≤ c ∧ l.length ≤ maxLen := by
  obtain ⟨_, _, _, A, c, e, h1, h2, _⟩ := h
  exact ⟨A, c, e, h1, h2⟩
theorem LRow.keep {B : Nat} {w w' : World} {v : Value} {l : List (List Int)} (h : LRow B w v l) (hk : ∀ p : Addr, p.block < B → w'.cell? p = w.cell? p) : LRow B w' v l := by
  obtain ⟨ps, h0, h1, h2⟩ := h
  exact ⟨ps, h0, fun i l p a b => Row.keep (h1 i l p a b) hk, h2.keep hk⟩
theorem LRow.below {B B' : Nat} {w w' : World} {v : Value} {l : List (List Int)} (h : LRow B w v l) (hb : Below B' w w') (hB : B ≤ B') : LRow B w' v l := h.keep fun p hp => hb.cell (p := p) (by omega)
theorem LRow.more {B B' : Nat} {w : World} {v : Value} {l : List (List Int)} (h : LRow B w v l) (hB : B ≤ B') : LRow B' w v l := by
  obtain ⟨ps, h0, h1, h2⟩ := h
  exact ⟨ps, h0, fun i l p a b => Row.more (h1 i l p a b) hB, h2.more hB⟩
theorem LRow.at_ {B : Nat} {w : World} {A : Option Addr} {n cap : Nat} {ll : List (List Int)} {k : Nat} {l : List Int} (h : LRow B w (.slice A n cap) ll) (hk : ll[k]? = some l) :
    ∃ b o Ak ck, A = some ⟨b, o, none⟩ ∧ b < B ∧ IRow B w (.slice Ak l.length ck) l ∧ w.cell? ⟨b, o + k, none⟩ = some (.slice Ak l.length ck) := by
  obtain ⟨ps, hl, hr, A', cap', e, _, _, _, h2⟩ := h
  injection e with e1 e2 e3
  subst e1
  have hlt : k < ll.length := (List.getElem?_eq_some_iff.1 hk).1
  obtain ⟨b, o, e, hb, hc⟩ := h2 (by omega)
  have hv : ps[k]? = some (ps[k]'(by omega)) := List.getElem?_eq_getElem (by omega)
  have r := hr k l _ hk hv
  generalize ps[k]'(by omega) = hx at hv r
  obtain ⟨Ak, ck, e1, _⟩ := id r
  subst e1
  exact ⟨b, o, Ak, ck, e, hb, r, hc _ _ hv⟩
/-- .. that the call owns. -/
def LOwn (w : World) (base : Nat) (v : Value) (ll : List (List Int)) : Prop :=
  ∃ ps : List Value, ps.length = ll.length ∧ (∀ (i : Nat) (l : List Int) (p : Value), ll[i]? = some l → ps[i]? = some p → IOwn w base p l) ∧ w.ownsRow base 34 1 v ll.length ps
theorem LOwn.row {w : World} {base : Nat} {v : Value} {ll : List (List Int)} (h : LOwn w base v ll) : LRow w.heap.size w v ll := by
  obtain ⟨ps, h0, h1, h2⟩ := h
  exact ⟨ps, h0, fun i l p a b => Row.of_own (h1 i l p a b), Row.of_own h2⟩
theorem LOwn.nil (w : World) (base : Nat) : LOwn w base (.slice none 0 0) [] := ⟨[], rfl, fun i l p h => by simp at h, World.ownsRow_nil _ _ _ _⟩
theorem LOwn.below {w w' : World} {base : Nat} {v : Value} {ll : List (List Int)} (h : LOwn w base v ll) (hb : Below w.heap.size w w') : LOwn w' base v ll := by
  obtain ⟨ps, h0, h1, h2⟩ := h
  exact ⟨ps, h0, fun i l p a b => own_below (h1 i l p a b) hb, own_below h2 hb⟩
theorem LOwn.form {w : World} {base : Nat} {v : Value} {ll : List (List Int)} (h : LOwn w base v ll) : ∃ a c, v = .slice a ll.length c := by
  obtain ⟨ps, _, _, h⟩ := h
  exact own_form h
/-- A row more behind the rows. -/
theorem LOwn.more {w2 w3 : World} {o : Obj} {base : Nat} {v v' : Value} {ll : List (List Int)} {ps : List Value} {l : List Int} {p : Value} (hl : ps.length = ll.length) (hi : ∀ (i : Nat) (l : List Int) (p : Value), ll[i]? = some l → ps[i]? = some p → IOwn w2 base p l)
    (hb : base ≤ w2.heap.size) (ho : w2.ownsRow base 34 1 v ll.length ps) (hp : IOwn w2 base p l)
    (own3 : w3.ownsRow base 34 1 v' (ll.length + 1) (ps ++ [p])) (hg : (w2.alloc o).grownBy w3 v.ownBlock) : LOwn w3 base v' (ll ++ [l]) := by
  have hk1 : Kept 34 base w2 w3 := ((Kept.refl 34 base w2).alloc hb o).trans (own_grown (ho.alloc o) (le_alloc hb o) hg)
  refine ⟨ps ++ [p], by simp [hl], fun i m q a b => ?_, by simpa using own3⟩
  by_cases h : i < ll.length
  · rw [List.getElem?_append_left h] at a
    rw [List.getElem?_append_left (by omega)] at b
    exact own_kept (hi i m q a b) (by decide) hk1
  · rw [List.getElem?_append_right (by omega)] at a
    rw [List.getElem?_append_right (by omega)] at b
    have hz : i - ll.length = 0 := by
      have := (List.getElem?_eq_some_iff.1 a).1
      simp at this
      omega
    rw [hl, hz] at b
    rw [hz] at a
    simp only [List.getElem?_cons_zero, Option.some.injEq] at a b
    subst a; subst b
    exact own_kept hp (by decide) hk1
/-- A row of n empty cells, just laid. -/
theorem make_row (w : World) (t e : TypeId) (z : Value) (b n : Nat) (ht : Try.prog.underlying t = some (.slice e)) (hi : (Try.prog.info? e).map (fun i => (i.zero, i.size, i.bytes)) = some (some z, 1, b)) (hz : z.cells = #[z]) (hn : n ≤ 1000000) (hb : b ≤ 100) :
    ∃ w', (Instr.makeSlice t (.int .i64 (n : Int)) (.int .i64 (n : Int))).run Try.prog w = .ok (.slice (some ⟨w.heap.size, 0, none⟩) n n) w' ∧ w'.heap[w.heap.size]? = some (.cells (List.replicate n z).toArray e (0, 0)) ∧ Below w.heap.size w w' := by
  obtain ⟨i0, hi, hz0, hz1, hz2⟩ := info_parts hi
  obtain ⟨w', hr, hown, hg⟩ := run_make_full (P := Try.prog) w w.heap.size t e i0 z 1 ht hi hz0 hz1 .i64 .i64 n (by rw [hz2]; exact Nat.le_trans (Nat.mul_le_mul hb hn) (by decide)) (by unfold maxLen; omega) (Nat.le_refl _)
  rw [Nat.mul_one] at hown
  rcases hown.2 with ⟨h', _⟩ | ⟨g, cap, cur, h', _, hgg, _, _, hcs, htake⟩
  · simp at h'
  · simp only [Value.slice.injEq, Option.some.injEq, Addr.mk.injEq, and_true, true_and] at h'
    obtain ⟨rfl, rfl⟩ := h'
    have e1 : (madeCells z.cells n).toList = List.replicate n z := by rw [hz]; exact toList_madeCells_one _ _
    have e2 : cur.toList.take (n * 1) = List.replicate n z := by rw [htake]; exact e1
    have e3 : cur.toList = List.replicate n z := by rw [← e2, List.take_of_length_le (by rw [Array.length_toList, hcs]; exact Nat.le_refl _)]
    have e4 : cur = (List.replicate n z).toArray := by rw [← e3]
    exact ⟨w', hr, by rw [← e4]; exact hgg, (Below.refl _ _).grown hg (Nat.le_refl _) (fun k hk => by cases hk)⟩
/-- Rows of ints that grow, in the cells of block ob; the blocks av are none of theirs. -/
structure Nest (base ob : Nat) (av : List Nat) (ll : List (List Int)) (ps : List Value) (w : World) : Prop where
  len : ps.length = ll.length
  own : ∀ (i : Nat) (l : List Int) (p : Value), ll[i]? = some l → ps[i]? = some p → IOwn w base p l
  sep : ∀ (i j : Nat) (p q : Value), i ≠ j → ps[i]? = some p → ps[j]? = some q → Sep p q
  out : w.heap[ob]? = some (.cells ps.toArray 34 (0, 0))
  avl : ∀ k ∈ av, k < w.heap.size
  avs : ∀ k ∈ av, ∀ p ∈ ps, p.ownBlock ≠ some k
section
variable {base ob : Nat} {av : List Nat} {ll : List (List Int)} {ps : List Value} {w w' : World}
theorem Nest.new {n : Nat} (h : w.heap[ob]? = some (.cells (List.replicate n (.slice none 0 0)).toArray 34 (0, 0))) (ha : ∀ k ∈ av, k < w.heap.size) : Nest base ob av (List.replicate n []) (List.replicate n (.slice none 0 0)) w :=
  ⟨by simp, fun i l p a b => by
    obtain ⟨_, rfl⟩ := List.getElem?_eq_some_iff.1 a
    obtain ⟨_, rfl⟩ := List.getElem?_eq_some_iff.1 b
    simp only [List.getElem_replicate]
    exact IOwn.nil _ _, fun i j p q _ a b => by
    obtain ⟨_, rfl⟩ := List.getElem?_eq_some_iff.1 a
    simp only [List.getElem_replicate]
    exact Sep.nil _, h, ha, fun k _ p hp => by
    obtain rfl := List.eq_of_mem_replicate hp
    simp [Value.ownBlock]⟩
theorem Nest.below (h : Nest base ob av ll ps w) (hb : Below w.heap.size w w') : Nest base ob av ll ps w' :=
  ⟨h.len, fun i l p a b => own_below (h.own i l p a b) hb, h.sep, (hb.block ob (lt_of_block h.out)).trans h.out, fun k hk => Nat.lt_of_lt_of_le (h.avl k hk) hb.size, h.avs⟩
theorem Nest.lt (h : Nest base ob av ll ps w) : ob < w.heap.size := lt_of_block h.out
theorem Nest.avoid (h : Nest base ob av ll ps w) {k : Nat} (hk : k ∈ av) {p : Value} (hp : p ∈ ps) : p.ownBlock ≠ some k := h.avs k hk p hp
/-- A cell of another block is turned. -/
theorem Nest.set (h : Nest base ob av ll ps w) {k i : Nat} {u : Value} (hk : k ∈ av) (hne : k ≠ ob) : Nest base ob av ll ps (w.setCell ⟨k, i, none⟩ u) :=
  ⟨h.len, fun i l p a b => own_but (h.own i l p a b) ((But.refl k k w).set k (.inl rfl)) (h.avs k hk p (List.mem_of_getElem? b)) (h.avs k hk p (List.mem_of_getElem? b)), h.sep,
    (Below.heap_setCell _ _ _ _ (by simpa using fun e => hne e.symm)).trans h.out, fun k hk => by simpa using h.avl k hk, h.avs⟩
theorem Nest.more (h : Nest base ob av ll ps w) {k : Nat} (hk : k < w.heap.size) (hn : ∀ p ∈ ps, p.ownBlock ≠ some k) : Nest base ob (k :: av) ll ps w :=
  ⟨h.len, h.own, h.sep, h.out, fun j hj => by rcases List.mem_cons.1 hj with rfl | hj; exact hk; exact h.avl j hj, fun j hj p hp => by rcases List.mem_cons.1 hj with rfl | hj; exact hn p hp; exact h.avs j hj p hp⟩
/-- An int more in one of the rows. -/
theorem Nest.push (h : Nest base ob av ll ps w) {i : Nat} {l : List Int} {p v : Value} {x : Int} {w3 : World} (hl : ll[i]? = some l) (hp : ps[i]? = some p) (hb : base ≤ w.heap.size)
    (own3 : w3.ownsRow base 3 1 v (l.length + 1) (icells l ++ [.int .i64 x])) (hg : (w.alloc (.cells #[.int .i64 x] 3)).grownBy w3 p.ownBlock) (hm : Moved (w.alloc (.cells #[.int .i64 x] 3)) p v) (hob : base ≤ ob) :
    Nest base ob av (ll.set i (l ++ [x])) (ps.set i v) (w3.setCell ⟨ob, i, none⟩ v) ∧ (∀ k ∈ av, w3.heap[k]? = w.heap[k]?) ∧ Below base w (w3.setCell ⟨ob, i, none⟩ v) ∧ w3.heap[ob]? = w.heap[ob]? ∧ w.heap.size ≤ w3.heap.size ∧ (∀ (k : Nat) (cs : Array Value) (t : TypeId) (m : Nat × Nat), t ≠ 3 → w.heap[k]? = some (.cells cs t m) → w3.heap[k]? = some (.cells cs t m)) := by
  have hpo := h.own i l p hl hp
  have hpm := List.mem_of_getElem? hp
  have hobp : p.ownBlock ≠ some ob := own_ne hpo h.out (by decide)
  have hz := hg.size
  simp only [size_alloc] at hz
  have hoblt := h.lt
  have hlt : i < ps.length := (List.getElem?_eq_some_iff.1 hp).1
  have ho3 : w3.heap[ob]? = w.heap[ob]? := (hg.block ob (by simp; omega) (fun e => hobp e.symm)).trans (Below.heap_alloc _ _ _ h.lt)
  have hav : ∀ k ∈ av, w3.heap[k]? = w.heap[k]? := fun k hk => (hg.block k (by have := h.avl k hk; simp; omega) (fun e => h.avs k hk p hpm e.symm)).trans (Below.heap_alloc _ _ _ (h.avl k hk))
  have hne : ∀ {q : Value} {m : List Int}, IOwn w3 base q m → q.ownBlock ≠ some ob := fun hq => own_ne hq (ho3.trans h.out) (by decide)
  have hv : IOwn w3 base v (l ++ [x]) := IOwn.more own3 rfl rfl
  have hset : ∀ {q : Value} {m : List Int}, IOwn w3 base q m → IOwn (w3.setCell ⟨ob, i, none⟩ v) base q m := fun hq => own_but hq ((But.refl ob ob w3).set ob (.inl rfl)) (hne hq) (hne hq)
  refine ⟨⟨by simp [h.len], fun j m q a b => ?_, fun j k q r hjk a b => ?_, ?_, fun k hk => by simp; have := h.avl k hk; omega, fun k hk q hq => ?_⟩, hav, ?_, ho3, by omega, fun k cs t m ht hk => (hg.block k (by have := lt_of_block hk; simp; omega) (fun e => own_ne hpo hk ht e.symm)).trans (heap_alloc_lt hk)⟩
  · by_cases e : i = j
    · subst e
      rw [List.getElem?_set_self (by rw [← h.len]; exact hlt)] at a
      rw [List.getElem?_set_self hlt] at b
      cases a; cases b
      exact hset hv
    · rw [List.getElem?_set_ne e] at a b
      exact hset (own_grown_other ((h.own j m q a b).alloc _) (h.sep i j p q e hp b) hg)
  · have step : ∀ {j : Nat} {q : Value}, i ≠ j → ps[j]? = some q → Sep v q := fun {j q} e b => by
      obtain ⟨m, hm2⟩ : ∃ m, ll[j]? = some m := ⟨_, List.getElem?_eq_getElem (by rw [← h.len]; exact (List.getElem?_eq_some_iff.1 b).1)⟩
      exact (h.sep i j p q e hp b).moved hm ((h.own j m q hm2 b).alloc _)
    by_cases e : i = j
    · subst e
      rw [List.getElem?_set_self hlt] at a
      rw [List.getElem?_set_ne hjk] at b
      cases a
      exact step hjk b
    · rw [List.getElem?_set_ne e] at a
      by_cases e2 : i = k
      · subst e2
        rw [List.getElem?_set_self hlt] at b
        cases b
        exact (step e a).swap
      · rw [List.getElem?_set_ne e2] at b
        exact h.sep j k q r hjk a b
  · have := heap_set_eq (i := i) (u := v) (ho3.trans h.out) (by simpa using hlt)
    rw [this]
    simp
  · rcases List.mem_or_eq_of_mem_set hq with hq | rfl
    · exact h.avs k hk q hq
    · rcases hm with hm | ⟨g, hm, hlt⟩
      · rw [hm]; exact h.avs k hk p hpm
      · rw [hm]; intro e; injection e with e; subst e; have := h.avl g hk; simp at hlt; omega
  · refine Below.setCell ((((Below.refl base w).alloc hb _).grown hg (by simp; omega) (fun k hk => own_block_ge hpo k hk))) hob _
theorem Nest.done (h : Nest base ob av ll ps w) (hb : base ≤ ob) (hm : ll.length ≤ maxLen) : LOwn w base (.slice (some ⟨ob, 0, none⟩) ll.length ll.length) ll :=
  ⟨ps, h.len, h.own, own_new h.out hb (by rw [h.len, Nat.mul_one]) hm⟩
end
end Go.Proofs.Ytbeelcklbdnjnaa
