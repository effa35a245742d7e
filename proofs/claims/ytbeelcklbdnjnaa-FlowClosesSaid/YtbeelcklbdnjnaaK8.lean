/-
  CUT by wip/tools/rawprune.py: what is needed of an earlier stage's text.
-/
import Derived.Test.YtbeelcklbdnjnaaK7
set_option linter.unusedVariables false
set_option linter.unusedSimpArgs false
namespace Go.Proofs.Ytbeelcklbdnjnaa
open Go.RowKit

theorem info43 : ∃ i, Try.prog.info? 44 = some i ∧ i.zero = some zeroIn ∧ i.size = 5 ∧ i.bytes = 72 := info_parts (by kernel_rfl)
theorem NOwn.more {w2 w3 : World} {o1 o2 : Obj} {base : Nat} {v v' : Value} {acc : List In} {ps : List (Value × Value)} {x : In} {k t : Value} (hs : Subs (IOwn w2 base) acc ps) (hb : base ≤ w2.heap.size)
    (ho : w2.ownsRow base 44 5 v acc.length ((acc.zip ps).flatMap ncells)) (hk : IOwn w2 base k x.keys) (ht : IOwn w2 base t x.to)
    (own3 : w3.ownsRow base 44 5 v' (acc.length + 1) ((acc.zip ps).flatMap ncells ++ ncells (x, k, t))) (hg : ((w2.alloc o1).alloc o2).grownBy w3 v.ownBlock) : NOwn w3 base v' (acc ++ [x]) := by
  have hk1 : Kept 44 base w2 w3 := (((Kept.refl 44 base w2).alloc hb o1).alloc (le_alloc hb o1) o2).trans (own_grown ((ho.alloc o1).alloc o2) (le_alloc (le_alloc hb o1) o2) hg)
  have km := fun (u : Value) (l : List Int) (h : IOwn w2 base u l) => (show IOwn w3 base u l from own_kept h (by decide) hk1)
  refine ⟨ps ++ [(k, t)], (hs.imp km).snoc (km _ _ hk) (km _ _ ht), ?_⟩
  rw [List.zip_append hs.1.symm, List.flatMap_append, List.length_append]
  simpa using own3
theorem insP_one {pc : Nat} {r : List UInt8} (hr : r ≠ []) (h : (oneP pc r).e = 0) (acc : List In) (a : Int × List In) (ha : a = ((insP pc r).1, acc ++ (insP pc r).2)) :
    a = ((insP (pc + (oneP pc r).n) (r.drop (oneP pc r).n)).1, (acc ++ [(oneP pc r).x]) ++ (insP (pc + (oneP pc r).n) (r.drop (oneP pc r).n)).2) := by
  rw [ha, insP_ok hr h]
  simp
theorem oneP_pc {pc : Nat} {r : List UInt8} (h : (oneP pc r).e = 0) : (oneP pc r).x.pc = pc := by
  unfold oneP at h ⊢
  simp only at h ⊢
  repeat' split
  all_goals first | rfl | (exfalso; revert h; simp_all)
/-- What stands at the head of Decode's loop. -/
structure DecAt (w : World) (s : ByteArray) (pc : Nat) (acc : List In) (t : ByteArray) (v : Value) (wr : World) : Prop where
  str : L t = (L s).drop pc
  size : t.size = s.size - pc
  le : pc ≤ s.size
  own : NOwn wr w.heap.size v acc
  bel : Below w.heap.size w wr
  ins : insP 0 (L s) = ((insP pc (L t)).1, acc ++ (insP pc (L t)).2)
  pcs : ∀ x ∈ acc, 0 ≤ x.pc ∧ x.pc < pc
  len : acc.length ≤ pc
  ne : 0 < pc → acc ≠ []
end Go.Proofs.Ytbeelcklbdnjnaa
