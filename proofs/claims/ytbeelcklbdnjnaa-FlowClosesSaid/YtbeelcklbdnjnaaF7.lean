/-
  WALKS: Reach's closure; what is reached, plain.
-/
import Derived.Test.YtbeelcklbdnjnaaF6
import Derived.Test.YtbeelcklbdnjnaaFq
import Derived.Deep.QuietTactic
import Derived.Deep.RegionLaw
import Derived.Deep.LoopGhost
import Derived.Deep.DeepCutAuto
set_option linter.unusedVariables false
set_option linter.unusedSimpArgs false
namespace Go.Proofs.Ytbeelcklbdnjnaa
open Go.RowKit

/-- What Reach has at hand: what is reached (rb), what is pending (pv), the cells that the closure holds (rc, pc). -/
structure REnv (base n rb rc pc : Nat) (b : List Bool) (p : List Int) (pv : Value) (w : World) : Prop where
  rcell : w.heap[rc]? = some (.cells #[.slice (some ⟨rb, 0, none⟩) n n] 36 (0, 0))
  rrow : w.heap[rb]? = some (.cells (bcells b).toArray 4 (0, 0))
  pcell : w.heap[pc]? = some (.cells #[pv] 34 (0, 0))
  pown : IOwn w base pv p
  len : b.length = n
  hb : base ≤ w.heap.size
  ger : base ≤ rb
  gep : base ≤ pc
/-- Below base all is as it was; and so are blocks of other types. -/
theorem own_popped {w : World} {base : Nat} {a : Option Addr} {n c : Nat} {xs : List Value} {x : Value} (h : w.ownsRow base 3 1 (.slice a (n + 1) c) (n + 1) (xs ++ [x])) : w.ownsRow base 3 1 (.slice a n c) n xs := by
  obtain ⟨h1, h2⟩ := h
  have hl : xs.length = n := by simp at h1; omega
  refine ⟨by omega, ?_⟩
  rcases h2 with ⟨e, h0⟩ | ⟨g, cap, cur, e, hg, hgg, hc, hm, hcs, htk⟩
  · omega
  · injection e with e1 e2 e3
    subst e1 e3
    refine .inr ⟨g, c, cur, rfl, hg, hgg, by omega, hm, hcs, ?_⟩
    have := congrArg (List.take n) htk
    rw [List.take_take] at this
    rw [Nat.mul_one, show n = min n ((n + 1) * 1) by omega, this, List.take_append_of_le_length (by omega), List.take_of_length_le (by omega)]
theorem bcells_set (b : List Bool) (i : Nat) (x : Bool) : (bcells b).set i (.bool x) = bcells (b.set i x) := by simp [bcells, List.map_set]
theorem REnv.mark {base n rb rc pc : Nat} {b : List Bool} {p : List Int} {pv : Value} {w : World} (h : REnv base n rb rc pc b p pv w) {i : Nat} (hi : i < n) (x : Bool) :
    REnv base n rb rc pc (b.set i x) p pv (w.setCell ⟨rb, i, none⟩ (.bool x)) := by
  have hn : pv.ownBlock ≠ some rb := own_ne h.pown h.rrow (by decide)
  refine ⟨heap_set_ne (fun e => ?_) h.rcell, ?_, heap_set_ne (fun e => ?_) h.pcell, own_but h.pown ((But.refl rb rb w).set rb (.inl rfl)) hn hn, by rw [List.length_set]; exact h.len, by simpa using h.hb, h.ger, h.gep⟩
  · have := h.rcell
    rw [e] at this
    rw [h.rrow] at this
    injection this with this
    injection this with _ t
    exact absurd t (by decide)
  · have := set_row (u := .bool x) h.rrow (k := i) (by simp [bcells, h.len, hi])
    rw [this, bcells_set]
  · have := h.pcell
    rw [e] at this
    rw [h.rrow] at this
    injection this with this
    injection this with _ t
    exact absurd t (by decide)
theorem REnv.push {base n rb rc pc : Nat} {b : List Bool} {p : List Int} {pv v : Value} {x : Int} {w w3 : World} (h : REnv base n rb rc pc b p pv w)
    (own3 : w3.ownsRow base 3 1 v (p.length + 1) (icells p ++ [.int .i64 x])) (hg : (w.alloc (.cells #[.int .i64 x] 3)).grownBy w3 pv.ownBlock) :
    REnv base n rb rc pc b (p ++ [x]) v (w3.setCell ⟨pc, 0, none⟩ v) ∧ Below base w (w3.setCell ⟨pc, 0, none⟩ v) ∧ w3.heap[pc]? = w.heap[pc]? := by
  have hz := hg.size
  simp only [size_alloc] at hz
  have hK : ∀ (k : Nat) (cs : Array Value) (t : TypeId) (m : Nat × Nat), t ≠ 3 → w.heap[k]? = some (.cells cs t m) → w3.heap[k]? = some (.cells cs t m) := fun k cs t m ht hk => (hg.block k (by have := lt_of_block hk; simp; omega) (fun e => own_ne h.pown hk ht e.symm)).trans (heap_alloc_lt hk)
  have hv : IOwn w3 base v (p ++ [x]) := IOwn.more own3 rfl rfl
  have hp3 := hK _ _ _ _ (by decide) h.pcell
  have hn : v.ownBlock ≠ some pc := own_ne hv hp3 (by decide)
  refine ⟨⟨heap_set_ne (fun e => ?_) (hK _ _ _ _ (by decide) h.rcell), heap_set_ne (fun e => ?_) (hK _ _ _ _ (by decide) h.rrow), ?_, own_but hv ((But.refl pc pc w3).set pc (.inl rfl)) hn hn, h.len, by simp; have := h.hb; omega, h.ger, h.gep⟩, Below.setCell ((((Below.refl base w).alloc h.hb _).grown hg (by simp; have := h.hb; omega) (fun k hk => own_block_ge h.pown k hk))) h.gep _, hp3.trans h.pcell.symm⟩
  · have := h.rcell
    rw [e] at this
    rw [h.pcell] at this
    injection this with this
    injection this with _ t
    exact absurd t (by decide)
  · have := h.rrow
    rw [e] at this
    rw [h.pcell] at this
    injection this with this
    injection this with _ t
    exact absurd t (by decide)
  · have := heap_set_eq (i := 0) (u := v) hp3 (by simp)
    rw [this]
    simp
theorem REnv.pop {base n rb rc pc : Nat} {b : List Bool} {p : List Int} {x : Int} {a : Option Addr} {c m : Nat} {w : World} (h : REnv base n rb rc pc b (p ++ [x]) (.slice a m c) w) :
    REnv base n rb rc pc b p (.slice a p.length c) (w.setCell ⟨pc, 0, none⟩ (.slice a p.length c)) ∧ Below base w (w.setCell ⟨pc, 0, none⟩ (.slice a p.length c)) := by
  have hm : m = p.length + 1 := by
    obtain ⟨a', c', e⟩ := h.pown.form
    injection e with _ e _
    rw [e]; simp
  subst hm
  have h0 := h.pown
  unfold IOwn at h0
  rw [icells_append, List.length_append] at h0
  have ho : IOwn w base (.slice a p.length c) p := own_popped (x := .int .i64 x) h0
  have hn : (Value.slice a p.length c).ownBlock ≠ some pc := own_ne ho h.pcell (by decide)
  refine ⟨⟨heap_set_ne (fun e => ?_) h.rcell, heap_set_ne (fun e => ?_) h.rrow, ?_, own_but ho ((But.refl pc pc w).set pc (.inl rfl)) hn hn, h.len, by simpa using h.hb, h.ger, h.gep⟩, Below.setCell (Below.refl _ _) h.gep _⟩
  · have := h.rcell
    rw [e] at this
    rw [h.pcell] at this
    injection this with this
    injection this with _ t
    exact absurd t (by decide)
  · have := h.rrow
    rw [e] at this
    rw [h.pcell] at this
    injection this with this
    injection this with _ t
    exact absurd t (by decide)
  · have := heap_set_eq (i := 0) (u := .slice a p.length c) h.pcell (by simp)
    rw [this]
    simp
set_option maxRecDepth 1000000 in
set_option maxHeartbeats 3200000 in
theorem reach1_any {base n rb rc pc : Nat} {b : List Bool} {p : List Int} {pv : Value} (i : Nat) (w : World) (h : REnv base n rb rc pc b p pv w) (hi : i < n) (hn : n ≤ 1000000) (hp : p.length ≤ 1000000) :
    Calls Try.prog 32 #[.int .i64 i, .pointer (some ⟨rc, 0, none⟩), .pointer (some ⟨pc, 0, none⟩)] w fun e w' => e = .returned (.tuple #[]) ∧ ∃ b' p' pv', REnv base n rb rc pc b' p' pv' w' ∧ Put b p i b' p' ∧ Below base w w' := by
  have HE := Lib.hid h
  have c1 := cells_of h.rcell 0
  have c2 := cells_of h.pcell 0
  have c3 := cells_of h.rrow i
  have f3 := free_of h.rrow
  have hbl := lt_of_block h.rrow
  obtain ⟨y, hy⟩ : ∃ y, b[i]? = some y := ⟨_, List.getElem?_eq_getElem (by rw [h.len]; exact hi)⟩
  have c3' : (bcells b).toArray[i]? = some (.bool y) := by simp [bcells, hy]
  rw [c3'] at c3
  simp at c1 c2
  have HY := Lib.hid hy
  clear h c3' hy
  cases y with
  | true =>
    go_enter Try.func32, Try.ntmps32
    go_wp2
    go_end0
    exact ⟨rfl, b, p, pv, HE.out, .inl ⟨HY.out, rfl, rfl⟩, Below.refl _ _⟩
  | false =>
    obtain ⟨i0, hi0, hz0, hz1, hz2⟩ := info3
    have HE1 := Lib.hid (HE.out.mark hi true)
    have hBW := Lib.hid (show Below base w (w.setCell ⟨rb, i, none⟩ (.bool true)) from Below.setCell (Below.refl _ _) HE.out.ger _)
    obtain ⟨a0, c0, rfl⟩ := HE.out.pown.form
    obtain ⟨W1, hW1⟩ : ∃ x, x = w.setCell ⟨rb, i, none⟩ (.bool true) := ⟨_, rfl⟩
    rw [← hW1] at HE1 hBW
    have d2 := cells_of HE1.out.pcell 0
    simp at d2
    have hsw := lt_of_block HE1.out.pcell
    have hbW := HE1.out.hb
    go_enter Try.func32, Try.ntmps32
    go_upto_region 2 with fail
    rw [← hW1]
    clear hW1
    go_wp2_with (at_builtin; refine wpList_append_own2 rfl (.tmp 12) (.tmp 14) 34 rfl base 3 i0 (.int .i64 0) 1 8 Try.underlying34 hi0 hz0 hz1 hz2 rfl (by decide) (.slice a0 p.length c0) p.length (icells p) rfl (World.ownsRow.alloc HE1.out.pown _) ⟨_, 0, none⟩ 1 1 [.int .i64 (i : Int)] rfl rfl (new_at _ [.int .i64 (i : Int)] 3 _ rfl) (int_cells .i64 [(i : Int)]) (by unfold maxLen; omega) (by omega) (by simp; omega) ?_)
    intro v3 w3 own3 hg3 hm3
    obtain ⟨g1, g2, g3⟩ := HE1.out.push own3 hg3
    have HG1 := Lib.hid g1
    have HG2 := Lib.hid g2
    have f33 := free_of (g3.trans HE1.out.pcell) 0
    have c33 := cells_of (g3.trans HE1.out.pcell) 0
    simp at c33
    obtain ⟨a3, c3, rfl⟩ := own_form own3
    clear own3 hg3 hm3 g1 g2 g3
    go_wp2
    go_end0
    exact ⟨rfl, _, _, _, HG1.out, .inr ⟨HY.out, rfl, rfl⟩, hBW.out.trans HG2.out⟩
end Go.Proofs.Ytbeelcklbdnjnaa
