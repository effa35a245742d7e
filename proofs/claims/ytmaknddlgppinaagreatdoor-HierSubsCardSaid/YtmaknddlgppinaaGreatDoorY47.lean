/-
  CUT and joined from the texts of this seat: Of Ka Kt Lz
-/
import Derived.Test.YtmaknddlgppinaaGreatDoorY04
import Derived.Test.YtmaknddlgppinaaGreatDoorY28
import Derived.Test.YtmaknddlgppinaaGreatDoorY26
import Derived.Test.YtmaknddlgppinaaGreatDoorTie
import Derived.ProofKit
import Derived.OpenShut
import Derived.ShutString
import Derived.ChangeOld
import Derived.Below
import Derived.Carry
import Derived.Lib.SmallJoins
import Derived.SizedLaws
import Derived.Deep.Slices
import Derived.LaidMore
import Derived.Stop.Joined
set_option linter.unusedVariables false
set_option linter.unusedSimpArgs false
namespace Go.Proofs.YtmaknddlgppinaaGreatDoor
open Go.Joins Go.ChangeShapes Go.WideShapes Go.ChangeAt Go.RowKit Go.Deep
theorem own : ownKnob Tryz.prog.godebug = none := by kernel_rfl
theorem laidOut : laidOutB Tryz.prog = true := by kernel_rfl
theorem buildL {α : Type} {P : Nat → α → Prop} (n : Nat) (h : ∀ i, i < n → ∃ q, P i q) : ∃ xs : List α, xs.length = n ∧ ∀ i x, xs[i]? = some x → P i x := by
 induction n with
 | zero => exact ⟨[], rfl, fun i x hi => by simp at hi⟩
 | succ n ih =>
  obtain ⟨xs, hl, hx⟩ := ih (fun i hi => h i (by omega))
  obtain ⟨q, hq⟩ := h n (by omega)
  refine ⟨xs ++ [q], by simp [hl], fun i x hi => ?_⟩
  by_cases hlt : i < xs.length
  ·rw [List.getElem?_append_left hlt] at hi
   exact hx i x hi
  ·rw [List.getElem?_append_right (by omega)] at hi
   have hz : i - xs.length = 0 := by
    rcases Nat.eq_zero_or_pos (i - xs.length) with h0 | h0
    ·exact h0
    ·rw [List.getElem?_eq_none (by simp; omega)] at hi; cases hi
   rw [hz] at hi
   simp at hi
   subst hi
   have : i = n := by omega
   subst this
   exact hq
section
variable {H : Type} {enc : TypeId × Value → H} {w : World} {base : Nat} {spare : Nat → Bool} {held : Bool}
theorem k3 : Tryz.prog.cellsOf 3 = 1 := by kernel_rfl
end
theorem wf_in {z : Int} (h : (Lit.int .i64 z).wf = true) : B64 z := by
 simp only [Lit.wf, Bool.and_eq_true, decide_eq_true_eq] at h
 exact h
section
variable {H : Type} {enc : TypeId × Value → H} {w : World} {base : Nat} {spare : Nat → Bool} {held : Bool}
theorem open_rowsN {α : Type} {t e : TypeId} {size fuel : Nat} {v : Value} {x : DataW H × List MemPlace} (Q : α → List Value → Prop) (ht : Tryz.prog.underlying t = some (.slice e)) (hC : Tryz.prog.cellsOf e = size) (hs : 0 < size)
  (hel : ∀ n cs y, DataW.trod enc Tryz.prog w base spare held n e cs = some y → ∃ a : α, Q a cs) (h : DataW.trod enc Tryz.prog w base spare held fuel t [v] = some x) :
  ∃ (A : Option Addr) (cap : Nat) (ps : List (α × List Value)), v = .slice A ps.length cap ∧ ps.length ≤ cap ∧ ps.length ≤ maxLen ∧ (∀ p ∈ ps, Q p.1 p.2) ∧ Reads w w.heap.size size A ps.length (ps.flatMap (·.2)) := by
 rcases open_slice ht h with ⟨h0, _⟩ | ⟨a, len, cap, m, n, D, Pl, hcs, hb, hl, hm, hmm, hx, hi⟩
 ·obtain rfl : v = .slice none 0 0 := by simpa using h0
  exact ⟨none, 0, [], rfl, Nat.le_refl _, Nat.zero_le _, fun p hp => by simp at hp, by simp, fun hn => absurd hn (by simp)⟩
 ·obtain rfl : v = .slice (some a) len cap := by simpa using hcs
  have hlm : len ≤ m := by rw [hmm]; split <;> omega
  have key : ∀ i, i < len → ∃ q : α × List Value, Q q.1 q.2 ∧ q.2.length = size ∧ ∀ j, j < size → w.cell? ((a.add (i * size)).add j) = q.2[j]? := by
   intro i hil
   obtain ⟨cs', hc, ht'⟩ := hi i (by omega)
   rw [hC] at hc
   obtain ⟨_, hcl, hat⟩ := World.cells?_some hc
   obtain ⟨q, hq⟩ := hel _ _ _ ht'
   exact ⟨(q, cs'), hq, hcl, hat⟩
  obtain ⟨ps, hpl, hps⟩ := buildL len key
  subst hpl
  refine ⟨some a, cap, ps, rfl, hl, by omega, fun p hp => ?_, ?_, fun hn => ?_⟩
  ·obtain ⟨k, hk, rfl⟩ := List.getElem_of_mem hp
   exact (hps k _ (List.getElem?_eq_getElem hk)).1
  ·have : ∀ p ∈ ps, p.2.length = size := fun p hp => by
    obtain ⟨k, hk, rfl⟩ := List.getElem_of_mem hp
    exact (hps k _ (List.getElem?_eq_getElem hk)).2.1
   clear hps hi key hmm hlm hl hx h hcs
   induction ps with
   | nil => simp
   | cons p r ih =>
    rw [List.flatMap_cons, List.length_append, this p (by simp), ih (fun q hq => this q (by simp [hq])), List.length_cons, Nat.succ_mul]
    omega
  ·obtain ⟨p0, hp0⟩ : ∃ p, ps[0]? = some p := ⟨_, List.getElem?_eq_getElem hn⟩
   have g0 := (hps 0 p0 hp0).2.2 0 hs
   have hl0 := (hps 0 p0 hp0).2.1
   have ea : (a.add (0 * size)).add 0 = a := by simp [Addr.add]
   rw [ea, List.getElem?_eq_getElem (by omega)] at g0
   have hsp := World.cell?_spot g0
   have hlt := World.block_lt_of_cell? w _ g0
   obtain ⟨ab, ao, sp⟩ := a
   have hsp' : sp = none := hsp
   subst hsp'
   refine ⟨ab, ao, rfl, hlt, fun j u hu => ?_⟩
   have hjl : j < (ps.flatMap (·.2)).length := (List.getElem?_eq_some_iff.1 hu).1
   have hsz : ∀ p ∈ ps, p.2.length = size := fun p hp => by
    obtain ⟨k, hk, rfl⟩ := List.getElem_of_mem hp
    exact (hps k _ (List.getElem?_eq_getElem hk)).2.1
   have hfl : (ps.flatMap (·.2)).length = ps.length * size := by
    clear hps hi key hmm hlm hl hx h hcs hp0 g0 hu hjl hn
    induction ps with
    | nil => simp
    | cons p r ih =>
     rw [List.flatMap_cons, List.length_append, hsz p (by simp), ih (fun q hq => hsz q (by simp [hq])), List.length_cons, Nat.succ_mul]
     omega
   have hi' : j / size < ps.length := by
    rw [hfl] at hjl
    exact Nat.div_lt_of_lt_mul (by rw [Nat.mul_comm]; exact hjl)
   obtain ⟨p, hp⟩ : ∃ p, ps[j / size]? = some p := ⟨_, List.getElem?_eq_getElem hi'⟩
   have hr : j % size < size := Nat.mod_lt _ hs
   have hj : j = j / size * size + j % size := by rw [Nat.mul_comm]; exact (Nat.div_add_mod j size).symm
   have hq := hps _ _ hp
   have key2 : (ps.flatMap (·.2))[j / size * size + j % size]? = p.2[j % size]? := by
    have gen : ∀ (l : List (α × List Value)), (∀ p ∈ l, p.2.length = size) → ∀ (k : Nat) (x : α × List Value), l[k]? = some x → ∀ r, r < size → (l.flatMap (·.2))[k * size + r]? = x.2[r]? := by
     intro l
     induction l with
     | nil => intro _ k x hx; simp at hx
     | cons y l ih =>
      intro hl k x hx r hr
      cases k with
      | zero =>
       simp only [List.getElem?_cons_zero, Option.some.injEq] at hx
       subst hx
       rw [List.flatMap_cons, Nat.zero_mul, Nat.zero_add, List.getElem?_append_left (by rw [hl _ (by simp)]; exact hr)]
      | succ k =>
       simp only [List.getElem?_cons_succ] at hx
       rw [List.flatMap_cons, List.getElem?_append_right (by rw [hl _ (by simp), Nat.succ_mul]; omega), hl _ (by simp)]
       rw [show (k + 1) * size + r - size = k * size + r by rw [Nat.succ_mul]; omega]
       exact ih (fun q hq => hl q (by simp [hq])) k x hx r hr
    exact gen ps hsz _ p hp _ hr
   rw [hj] at hu ⊢
   rw [key2, ← hq.2.2 _ hr] at hu
   rw [add_of_add, plain_add] at hu
   exact hu
theorem open_nums {fuel : Nat} {v : Value} {x : DataW H × List MemPlace} (h : DataW.trod enc Tryz.prog w base spare held fuel 29 [v] = some x) : ∃ l : List Int, IRow w.heap.size w v l ∧ ∀ z ∈ l, B64 z := by
 obtain ⟨A, cap, ps, rfl, hl, hm, hq, hr⟩ := open_rowsN (fun (c : Int) cs => cs = [.int .i64 c] ∧ B64 c) Tryz.underlying29 (size := 1) (by kernel_rfl) (by omega) (fun n cs y h => by
  obtain ⟨z0, hz0, _, hw0⟩ := DataW.trod_int Tryz.underlying3 h
  exact ⟨z0, hz0, wf_in hw0⟩) h
 have e : ps.flatMap (·.2) = (ps.map (·.1)).map (fun z => Value.int .i64 z) := by
  clear hl hm hr h
  induction ps with
  | nil => rfl
  | cons p r ih =>
   rw [List.flatMap_cons, ih (fun q hq' => hq q (by simp [hq'])), (hq p (by simp)).1]
   simp
 refine ⟨ps.map (·.1), ?_, fun z hz => ?_⟩
 ·refine ⟨A, cap, by rw [List.length_map], by rw [List.length_map]; exact hl, by rw [List.length_map]; exact hm, ?_⟩
  rw [List.length_map]
  first
  | (rw [← e]; exact hr)
  | (show Reads w w.heap.size 1 A ps.length ((ps.map (·.1)).map (fun z => Value.int .i64 z)); rw [← e]; exact hr)
 ·obtain ⟨p, hp, rfl⟩ := List.mem_map.1 hz
  exact (hq p hp).2
theorem k29 : Tryz.prog.cellsOf 29 = 1 := by kernel_rfl
theorem k3' : Tryz.prog.cellsOf 3 = 1 := by kernel_rfl
set_option maxRecDepth 100000 in
theorem trod_raw {fuel : Nat} {cs : List Value} {x : DataW H × List MemPlace} (h : DataW.trod enc Tryz.prog w base spare held fuel 99 cs = some x) : ∃ m : Rw × Value, cs = rwcells m.1 m.2 ∧ m.1.Ok ∧ IRow w.heap.size w m.2 m.1.ifs := by
 obtain ⟨xs, m, _, rfl, hl, hlx, hf⟩ := DataW.trod_struct Tryz.underlying99 h
 have hC : Tryz.prog.cellsOf 99 = 4 := by kernel_rfl
 rw [hC] at hl
 obtain ⟨c0, c1, c2, c3, rfl⟩ : ∃ c0 c1 c2 c3, cs = [c0, c1, c2, c3] := by
  match cs, hl with
  | [c0, c1, c2, c3], _ => exact ⟨c0, c1, c2, c3, rfl⟩
 have hlx' : xs.length = 4 := hlx
 have h0 := hf 0 _ rfl
 have e0 : xs[0]? = some xs[0] := List.getElem?_eq_getElem (by omega)
 rw [e0] at h0
 obtain ⟨z0, hz0, _, hw0⟩ := DataW.trod_int Tryz.underlying3 h0
 obtain rfl : c0 = .int .i64 z0 := by simpa [k3'] using hz0
 have h1 := hf 1 _ rfl
 have e1 : xs[1]? = some xs[1] := List.getElem?_eq_getElem (by omega)
 rw [e1] at h1
 obtain ⟨z1, hz1, _, hw1⟩ := DataW.trod_int Tryz.underlying3 h1
 obtain rfl : c1 = .int .i64 z1 := by simpa [k3'] using hz1
 have h2 := hf 2 _ rfl
 have e2 : xs[2]? = some xs[2] := List.getElem?_eq_getElem (by omega)
 rw [e2] at h2
 obtain ⟨z2, hz2, _, hw2⟩ := DataW.trod_int Tryz.underlying3 h2
 obtain rfl : c2 = .int .i64 z2 := by simpa [k3'] using hz2
 have h3 := hf 3 _ rfl
 have e3 : xs[3]? = some xs[3] := List.getElem?_eq_getElem (by omega)
 rw [e3] at h3
 have e4 : (List.drop 3 [(Value.int .i64 z0), .int .i64 z1, .int .i64 z2, c3]).take 1 = [c3] := rfl
 obtain ⟨l, hr, hw⟩ := open_nums (v := c3) (by simpa [k3', k29] using h3)
 exact ⟨⟨⟨z0, z1, z2, l⟩, c3⟩, rfl, ⟨wf_in hw0, wf_in hw1, wf_in hw2, hw⟩, hr⟩
theorem open_raws {fuel : Nat} {v : Value} {x : DataW H × List MemPlace} (h : DataW.trod enc Tryz.prog w base spare held fuel 23 [v] = some x) : ∃ rs, RawsRow w.heap.size w v rs := by
 obtain ⟨A, cap, ps, rfl, hl, hm, hq, hr⟩ := open_rowsN (fun (c : Rw × Value) cs => cs = rwcells c.1 c.2 ∧ c.1.Ok ∧ IRow w.heap.size w c.2 c.1.ifs) Tryz.underlying23 (size := 4) (by kernel_rfl) (by omega) (fun n cs y h => trod_raw h) h
 have e : ps.flatMap (·.2) = ((ps.map (·.1.1)).zip (ps.map (·.1.2))).flatMap fun p => rwcells p.1 p.2 := by
  clear hl hm hr h
  induction ps with
  | nil => rfl
  | cons p r ih =>
   rw [List.flatMap_cons, ih (fun q hq' => hq q (by simp [hq'])), (hq p (by simp)).1]
   simp
 refine ⟨ps.map (·.1.1), ⟨ps.map (·.1.2), by simp, fun i r x hi hx => ?_, ?_⟩, fun r hr => ?_⟩
 ·rw [List.getElem?_map] at hi hx
  cases hp : ps[i]? with
  | none => rw [hp] at hi; cases hi
  | some p =>
   rw [hp] at hi hx
   cases hi; cases hx
   exact (hq p (List.mem_of_getElem? hp)).2.2
 ·refine ⟨A, cap, by rw [List.length_map], by rw [List.length_map]; exact hl, by rw [List.length_map]; exact hm, ?_⟩
  rw [List.length_map, ← e]
  exact hr
 ·obtain ⟨p, hp, rfl⟩ := List.mem_map.1 hr
  exact (hq p hp).2.1
end
end Go.Proofs.YtmaknddlgppinaaGreatDoor
namespace Go.Proofs.YtmaknddlgppinaaGreatDoor
open Go.Joins Go.ChangeShapes Go.WideShapes Go.ChangeAt Go.RowKit
section
variable {H : Type} {enc : TypeId × Value → H} {w : World} {base : Nat} {spare : Nat → Bool} {held : Bool}
set_option maxRecDepth 100000 in
theorem open_ty {r : Reach} {b0 : Nat} {v : Value} {d : DataW H} {p : List MemPlace} (hv : Value.okWide Tryz.prog w r b0 31 v) (h : DataW.Trod enc Tryz.prog w base spare held 31 v d p) :
  ∃ (n : Int) (s : ByteArray), v = .agg #[.int .i64 n, .string s] := by
 obtain ⟨v0, v1, y0, y1, n, rfl, _, _, h0, h1⟩ := open_agg2 Tryz.underlying31 (by kernel_rfl) (by kernel_rfl) hv h
 obtain ⟨z, hz, _, hw⟩ := DataW.trod_int Tryz.underlying3 h0
 obtain ⟨s, hs, _, hl⟩ := DataW.trod_string Tryz.underlying9 h1
 obtain rfl : v0 = .int .i64 z := by simpa using hz
 obtain rfl : v1 = .string s := by simpa using hs
 exact ⟨z, s, rfl⟩
end
end Go.Proofs.YtmaknddlgppinaaGreatDoor
namespace Go.Proofs.YtmaknddlgppinaaGreatDoor
open Go.ChangeShapes Go.WideShapes Go.ChangeAt Go.RowKit
theorem gBlt : Tryz.prog.globalNamed "crucible/hier.builtins" = some 0 := by kernel_rfl
theorem tBlt : (Tryz.prog.globals[0]?).map (·.type) = some 149 := by kernel_rfl
abbrev laidN : List (String × DataW Unit) := [("crucible/hier.builtins", Rows.laid_crucible_hier_builtins)]
theorem laid_blt : (Rows.laid_crucible_hier_builtins : DataW Unit) = .agg (builtP.map fun c => .agg [.lit (.string c.name), .lit (.string c.super)]) := by rfl
theorem door_met (os : Os) (args : Array Value) : laidMetH Tryz.prog laidN ((World.doorLaid Tryz.prog 400 os).forCall (fun _ _ => 0) ⟨#[], args, []⟩).memory :=
 laidMetH_of_parts3 (fuel := 8) (laidMet_of_run' 8 (by kernel_rfl) (by kernel_rfl)) (by kernel_rfl) (by kernel_rfl)
theorem c148 : Tryz.prog.cellsOf 148 = 2 := by kernel_rfl
theorem c9 : Tryz.prog.cellsOf 9 = 1 := by kernel_rfl
theorem blV_at (k : Nat) (c : PC) (h : builtP[k]? = some c) (hk : k < 14) : blV[k * 2]? = some (.string ⟨c.name.toArray⟩) ∧ blV[k * 2 + 1]? = some (.string ⟨c.super.toArray⟩) := by
 have gen : ∀ (l : List PC) (k : Nat) (c : PC), l[k]? = some c → (l.flatMap blC)[k * 2]? = some (.string ⟨c.name.toArray⟩) ∧ (l.flatMap blC)[k * 2 + 1]? = some (.string ⟨c.super.toArray⟩) := by
  intro l
  induction l with
  | nil => intro k c h; simp at h
  | cons x r ih =>
   intro k c h
   cases k with
   | zero => simp only [List.getElem?_cons_zero, Option.some.injEq] at h; subst h; exact ⟨rfl, rfl⟩
   | succ k =>
    simp only [List.getElem?_cons_succ] at h
    have := ih k c h
    rw [show (k + 1) * 2 = k * 2 + 2 by omega]
    exact this
 exact gen builtP k c h
theorem bytes_of {s : ByteArray} {l : List UInt8} (h : s.data.toList = l) : s = ⟨l.toArray⟩ := by
 subst h
 cases s
 rfl
theorem of_laid {W : World} (h : laidMetH Tryz.prog laidN W) : Blt W := by
 rw [MakeChecks.laidMetH_plain _ _ _ (by kernel_rfl)] at h
 obtain ⟨ps, ⟨g0, t0, cs0, f0, p0, q0, hg0, ht0, hv0, hd0, _, _⟩, _⟩ := h
 obtain rfl := Option.some.inj (gBlt.symm.trans hg0)
 obtain rfl := Option.some.inj (tBlt.symm.trans ht0)
 obtain ⟨xs, m1, rfl, hx1, hlen, hn3, hel⟩ := DataW.trod_array Tryz.underlying149 hd0
 simp only [Prod.mk.injEq] at hx1
 have hx := hx1.1
 rw [laid_blt] at hx
 simp only [DataW.agg.injEq] at hx
 have key : ∀ k, k < 14 → ∀ c, builtP[k]? = some c → cs0[k * 2]? = some (.string ⟨c.name.toArray⟩) ∧ cs0[k * 2 + 1]? = some (.string ⟨c.super.toArray⟩) := by
  intro k hk c hc
  have h1 := hel k hk
  rw [c148] at h1
  have hxk : xs[k]? = some (xs[k]'(by omega)) := List.getElem?_eq_getElem (by omega)
  rw [hxk] at h1
  obtain ⟨ys, m2, hy1, _, hl, hlx, hf⟩ := DataW.trod_struct Tryz.underlying148 h1
  have hly : ys.length = 2 := hlx
  obtain ⟨ya, yb, rfl⟩ : ∃ a b, ys = [a, b] := by
   match ys, hly with
   | [a, b], _ => exact ⟨a, b, rfl⟩
  have f0 := hf 0 _ rfl
  have f1 := hf 1 _ rfl
  obtain ⟨s0, g0, d0, _⟩ := DataW.trod_string (x := ya) Tryz.underlying9 f0
  obtain ⟨s1, g1, d1, _⟩ := DataW.trod_string (x := yb) Tryz.underlying9 f1
  rename_i hxe _ _
  have e3 : (xs.map (·.1))[k]? = some (.agg [.lit (.string s0.data.toList), .lit (.string s1.data.toList)]) := by
   rw [List.getElem?_map, hxk, Option.map_some, hxe]
   simp [d0, d1]
  rw [← hx, List.getElem?_map, hc] at e3
  simp only [Option.map_some, Option.some.injEq, DataW.agg.injEq, List.cons.injEq, DataW.lit.injEq, and_true] at e3
  obtain ⟨e3, e4⟩ := e3
  injection e3 with e3
  injection e4 with e4
  have h0 := bytes_of e3.symm
  have h1' := bytes_of e4.symm
  replace g0 : List.take (Tryz.prog.cellsOf 9) (List.drop 0 (List.take 2 (List.drop (k * 2) cs0.toList))) = [.string s0] := g0
  replace g1 : List.take (Tryz.prog.cellsOf 9) (List.drop 1 (List.take 2 (List.drop (k * 2) cs0.toList))) = [.string s1] := g1
  rw [c9] at g0 g1
  have a0 := congrArg (fun l => l[0]?) g0
  have a1 := congrArg (fun l => l[0]?) g1
  simp [List.getElem?_take, List.getElem?_drop] at a0 a1
  rw [← h0, ← h1']
  exact ⟨a0, a1⟩
 intro k v hv
 have hk : k < 28 := (List.getElem?_eq_some_iff.1 hv).1
 obtain ⟨c, hc⟩ : ∃ c, builtP[k / 2]? = some c := ⟨_, List.getElem?_eq_getElem (show k / 2 < builtP.length by have : builtP.length = 14 := rfl; omega)⟩
 have h1 := key (k / 2) (by omega) c hc
 have h2 := blV_at (k / 2) c hc (by omega)
 rw [World.var?_cell gBlt hv0 k]
 rcases Nat.mod_two_eq_zero_or_one k with h | h
 ·have e : k = k / 2 * 2 := by omega
  rw [← e] at h1 h2
  rw [h2.1] at hv
  rw [← hv]
  exact h1.1
 ·have e : k = k / 2 * 2 + 1 := by omega
  rw [← e] at h1 h2
  rw [h2.2] at hv
  rw [← hv]
  exact h1.2
end Go.Proofs.YtmaknddlgppinaaGreatDoor
