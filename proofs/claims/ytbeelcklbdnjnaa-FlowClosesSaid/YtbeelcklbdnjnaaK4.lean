/-
  CUT by wip/tools/rawprune.py: what is needed of an earlier stage's text.
-/
import Derived.Test.YtbeelcklbdnjnaaAp
set_option linter.unusedVariables false
set_option linter.unusedSimpArgs false
namespace Go.Proofs.Ytbeelcklbdnjnaa
open Go.RowKit

def keysS (l : List UInt8) (k : Nat) : List Int := (List.range k).map fun i => b2 l (4 + 4 * i)
def tosS (pc : Nat) (l : List UInt8) (k : Nat) : List Int := ((pc : Int) + s16 (b2 l 0)) :: (List.range k).map fun i => (pc : Int) + s16 (b2 l (6 + 4 * i))
theorem keysS_succ (l : List UInt8) (k : Nat) : keysS l (k + 1) = keysS l k ++ [b2 l (4 + 4 * k)] := by simp [keysS, List.range_succ]
theorem tosS_succ (pc : Nat) (l : List UInt8) (k : Nat) : tosS pc l (k + 1) = tosS pc l k ++ [(pc : Int) + s16 (b2 l (6 + 4 * k))] := by simp [tosS, List.range_succ]
theorem keysS_len (l : List UInt8) (k : Nat) : (keysS l k).length = k := by simp [keysS]
theorem tosS_len (pc : Nat) (l : List UInt8) (k : Nat) : (tosS pc l k).length = k + 1 := by simp [tosS]
theorem info3 : ∃ i, Try.prog.info? 3 = some i ∧ i.zero = some (.int .i64 0) ∧ i.size = 1 ∧ i.bytes = 8 := info_parts (by kernel_rfl)
theorem size_alloc (w : World) (o : Obj) : (w.alloc o).heap.size = w.heap.size + 1 := by simp
theorem new_at (w : World) (cs : List Value) (t : TypeId) (b : Nat) (h : w.heap.size = b) : ∀ j u, cs[j]? = some u → (w.alloc (.cells cs.toArray t)).cell? (({ block := b, off := 0 } : Addr).add j) = some u := by
  subst h
  exact new_cells w cs t
theorem heap_new_at (w : World) (o : Obj) (b : Nat) (h : w.heap.size = b) : (w.alloc o).heap[b]? = some o := by
  subst h
  exact heap_new w o
theorem grown_keep {w w' : World} {base k : Nat} {e : TypeId} {size n : Nat} {v : Value} {xs : List Value} {o : Obj} (h : w.ownsRow base e size v n xs) (hg : w.grownBy w' v.ownBlock) (hk : k < base) (ho : w.heap[k]? = some o) : w'.heap[k]? = some o :=
  (hg.block k (lt_of_block ho) (fun e => by have := own_block_ge h k e.symm; omega)).trans ho
end Go.Proofs.Ytbeelcklbdnjnaa
