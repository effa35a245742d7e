/-
  OPENING the laws' arguments: a slice of handlers.
-/
import Derived.Test.YtbeelcklbdnjnaaF10
import Derived.ProofKit
import Derived.OpenShut
import Derived.ShutString
import Derived.ChangeOld
import Derived.Below
import Derived.Carry
import Derived.Lib.SmallJoins
import Derived.Deep.Slices
set_option linter.unusedVariables false
set_option linter.unusedSimpArgs false
namespace Go.Proofs.Ytbeelcklbdnjnaa
open Go.Joins Go.ChangeShapes Go.WideShapes Go.ChangeAt Go.RowKit Go.Deep
theorem add_of_add (a : Addr) (i j : Nat) : (a.add i).add j = a.add (i + j) := by
  unfold Addr.add
  by_cases hi : i = 0 <;> by_cases hj : j = 0 <;> simp [hi, hj, Nat.add_assoc]
theorem own : ownKnob Try.prog.godebug = none := by kernel_rfl
theorem laidOut : laidOutB Try.prog = true := by kernel_rfl
theorem buildL {α : Type} {P : Nat → α → Prop} (n : Nat) (h : ∀ i, i < n → ∃ q, P i q) : ∃ xs : List α, xs.length = n ∧ ∀ i x, xs[i]? = some x → P i x := by
  induction n with
  | zero => exact ⟨[], rfl, fun i x hi => by simp at hi⟩
  | succ n ih =>
    obtain ⟨xs, hl, hx⟩ := ih (fun i hi => h i (by omega))
    obtain ⟨q, hq⟩ := h n (by omega)
    refine ⟨xs ++ [q], by simp [hl], fun i x hi => ?_⟩
    by_cases hlt : i < xs.length
    · rw [List.getElem?_append_left hlt] at hi
      exact hx i x hi
    · rw [List.getElem?_append_right (by omega)] at hi
      have hz : i - xs.length = 0 := by
        rcases Nat.eq_zero_or_pos (i - xs.length) with h0 | h0
        · exact h0
        · rw [List.getElem?_eq_none (by simp; omega)] at hi; cases hi
      rw [hz] at hi
      simp at hi
      subst hi
      have : i = n := by omega
      subst this
      exact hq
theorem wf_in {z : Int} (h : (Lit.int .i64 z).wf = true) : i64 z := by
  simp only [Lit.wf, Bool.and_eq_true, decide_eq_true_eq] at h
  exact h
section
variable {H : Type} {enc : TypeId × Value → H} {w : World} {base : Nat} {spare : Nat → Bool} {held : Bool}
theorem open_rows {α : Type} {t e : TypeId} {size fuel : Nat} {v : Value} {x : DataW H × List MemPlace} (Q : α → List Value → Prop) (ht : Try.prog.underlying t = some (.slice e)) (hC : Try.prog.cellsOf e = size) (hs : 0 < size)
    (hel : ∀ n cs y, DataW.trod enc Try.prog w base spare held n e cs = some y → ∃ a : α, Q a cs) (h : DataW.trod enc Try.prog w base spare held fuel t [v] = some x) :
    ∃ (A : Option Addr) (cap : Nat) (ps : List (α × List Value)), v = .slice A ps.length cap ∧ ps.length ≤ cap ∧ ps.length ≤ maxLen ∧ (∀ p ∈ ps, Q p.1 p.2) ∧ Reads w w.heap.size size A ps.length (ps.flatMap (·.2)) := by
  rcases open_slice ht h with ⟨h0, _⟩ | ⟨a, len, cap, m, n, D, Pl, hcs, hb, hl, hm, hmm, hx, hi⟩
  · obtain rfl : v = .slice none 0 0 := by simpa using h0
    exact ⟨none, 0, [], rfl, Nat.le_refl _, Nat.zero_le _, fun p hp => by simp at hp, by simp, fun hn => absurd hn (by simp)⟩
  · obtain rfl : v = .slice (some a) len cap := by simpa using hcs
    have hlm : len ≤ m := by rw [hmm]; split <;> omega
    have key : ∀ i, i < len → ∃ q : α × List Value, Q q.1 q.2 ∧ q.2.length = size ∧ ∀ j, j < size → w.cell? ((a.add (i * size)).add j) = q.2[j]? := by
      intro i hil
      obtain ⟨cs', hc, ht'⟩ := hi i (by omega)
      rw [hC] at hc
      obtain ⟨_, hcl, hat⟩ := World.cells?_some hc
      obtain ⟨q, hq⟩ := hel _ _ _ ht'
      exact ⟨(q, cs'), hq, hcl, hat⟩
    obtain ⟨ps, hpl, hps⟩ := buildL len key
    subst hpl
    refine ⟨some a, cap, ps, rfl, hl, by omega, fun p hp => ?_, ?_, fun hn => ?_⟩
    · obtain ⟨k, hk, rfl⟩ := List.getElem_of_mem hp
      exact (hps k _ (List.getElem?_eq_getElem hk)).1
    · have : ∀ p ∈ ps, p.2.length = size := fun p hp => by
        obtain ⟨k, hk, rfl⟩ := List.getElem_of_mem hp
        exact (hps k _ (List.getElem?_eq_getElem hk)).2.1
      clear hps hi key hmm hlm hl hx h hcs
      induction ps with
      | nil => simp
      | cons p r ih =>
        rw [List.flatMap_cons, List.length_append, this p (by simp), ih (fun q hq => this q (by simp [hq])), List.length_cons, Nat.succ_mul]
        omega
    · obtain ⟨p0, hp0⟩ : ∃ p, ps[0]? = some p := ⟨_, List.getElem?_eq_getElem hn⟩
      have g0 := (hps 0 p0 hp0).2.2 0 hs
      have hl0 := (hps 0 p0 hp0).2.1
      have ea : (a.add (0 * size)).add 0 = a := by simp [Addr.add]
      rw [ea, List.getElem?_eq_getElem (by omega)] at g0
      have hsp := World.cell?_spot g0
      have hlt := World.block_lt_of_cell? w _ g0
      obtain ⟨ab, ao, sp⟩ := a
      have hsp' : sp = none := hsp
      subst hsp'
      refine ⟨ab, ao, rfl, hlt, fun j u hu => ?_⟩
      have hjl : j < (ps.flatMap (·.2)).length := (List.getElem?_eq_some_iff.1 hu).1
      have hsz : ∀ p ∈ ps, p.2.length = size := fun p hp => by
        obtain ⟨k, hk, rfl⟩ := List.getElem_of_mem hp
        exact (hps k _ (List.getElem?_eq_getElem hk)).2.1
      have hfl : (ps.flatMap (·.2)).length = ps.length * size := by
        clear hps hi key hmm hlm hl hx h hcs hp0 g0 hu hjl hn
        induction ps with
        | nil => simp
        | cons p r ih =>
          rw [List.flatMap_cons, List.length_append, hsz p (by simp), ih (fun q hq => hsz q (by simp [hq])), List.length_cons, Nat.succ_mul]
          omega
      have hi' : j / size < ps.length := by
        rw [hfl] at hjl
        exact Nat.div_lt_of_lt_mul (by rw [Nat.mul_comm]; exact hjl)
      obtain ⟨p, hp⟩ : ∃ p, ps[j / size]? = some p := ⟨_, List.getElem?_eq_getElem hi'⟩
      have hr : j % size < size := Nat.mod_lt _ hs
      have hj : j = j / size * size + j % size := by rw [Nat.mul_comm]; exact (Nat.div_add_mod j size).symm
      have hq := hps _ _ hp
      have key2 : (ps.flatMap (·.2))[j / size * size + j % size]? = p.2[j % size]? := by
        have gen : ∀ (l : List (α × List Value)), (∀ p ∈ l, p.2.length = size) → ∀ (k : Nat) (x : α × List Value), l[k]? = some x → ∀ r, r < size → (l.flatMap (·.2))[k * size + r]? = x.2[r]? := by
          intro l
          induction l with
          | nil => intro _ k x hx; simp at hx
          | cons y l ih =>
            intro hl k x hx r hr
            cases k with
            | zero =>
              simp only [List.getElem?_cons_zero, Option.some.injEq] at hx
              subst hx
              rw [List.flatMap_cons, Nat.zero_mul, Nat.zero_add, List.getElem?_append_left (by rw [hl _ (by simp)]; exact hr)]
            | succ k =>
              simp only [List.getElem?_cons_succ] at hx
              rw [List.flatMap_cons, List.getElem?_append_right (by rw [hl _ (by simp), Nat.succ_mul]; omega), hl _ (by simp)]
              rw [show (k + 1) * size + r - size = k * size + r by rw [Nat.succ_mul]; omega]
              exact ih (fun q hq => hl q (by simp [hq])) k x hx r hr
        exact gen ps hsz _ p hp _ hr
      rw [hj] at hu ⊢
      rw [key2, ← hq.2.2 _ hr] at hu
      rw [add_of_add, plain_add] at hu
      exact hu
theorem k3 : Try.prog.cellsOf 3 = 1 := by kernel_rfl
set_option maxRecDepth 100000 in
theorem trod_hd {fuel : Nat} {cs : List Value} {x : DataW H × List MemPlace} (h : DataW.trod enc Try.prog w base spare held fuel 48 cs = some x) : ∃ m : Hd, cs = hcells m ∧ i64 m.frm ∧ i64 m.to ∧ i64 m.at_ := by
  obtain ⟨xs, m, _, rfl, hl, hlx, hf⟩ := DataW.trod_struct Try.underlying48 h
  have hC : Try.prog.cellsOf 48 = 4 := by kernel_rfl
  rw [hC] at hl
  obtain ⟨c0, c1, c2, c3, rfl⟩ : ∃ c0 c1 c2 c3, cs = [c0, c1, c2, c3] := by
    match cs, hl with
    | [c0, c1, c2, c3], _ => exact ⟨c0, c1, c2, c3, rfl⟩
  have hlx' : xs.length = 4 := hlx
  have h0 := hf 0 _ rfl
  have e0 : xs[0]? = some xs[0] := List.getElem?_eq_getElem (by omega)
  rw [e0] at h0
  obtain ⟨z0, hz0, _, hw0⟩ := DataW.trod_int Try.underlying3 h0
  obtain rfl : c0 = .int .i64 z0 := by simpa [k3] using hz0
  have h1 := hf 1 _ rfl
  have e1 : xs[1]? = some xs[1] := List.getElem?_eq_getElem (by omega)
  rw [e1] at h1
  obtain ⟨z1, hz1, _, hw1⟩ := DataW.trod_int Try.underlying3 h1
  obtain rfl : c1 = .int .i64 z1 := by simpa [k3] using hz1
  have h2 := hf 2 _ rfl
  have e2 : xs[2]? = some xs[2] := List.getElem?_eq_getElem (by omega)
  rw [e2] at h2
  obtain ⟨z2, hz2, _, hw2⟩ := DataW.trod_int Try.underlying3 h2
  obtain rfl : c2 = .int .i64 z2 := by simpa [k3] using hz2
  have h3 := hf 3 _ rfl
  have e3 : xs[3]? = some xs[3] := List.getElem?_eq_getElem (by omega)
  rw [e3] at h3
  obtain ⟨z3, hz3, _, hw3⟩ := DataW.trod_int Try.underlying3 h3
  obtain rfl : c3 = .int .i64 z3 := by simpa [k3] using hz3
  exact ⟨⟨z0, z1, z2, z3⟩, rfl, wf_in hw0, wf_in hw1, wf_in hw2⟩
theorem open_hds {fuel : Nat} {v : Value} {x : DataW H × List MemPlace} (h : DataW.trod enc Try.prog w base spare held fuel 22 [v] = some x) : ∃ hs, HRow w.heap.size w v hs ∧ Hok hs := by
  obtain ⟨A, cap, ps, rfl, hl, hm, hq, hr⟩ := open_rows (fun (c : Hd) cs => cs = hcells c ∧ i64 c.frm ∧ i64 c.to ∧ i64 c.at_) Try.underlying22 (size := 4) (by kernel_rfl) (by omega) (fun n cs y h => trod_hd h) h
  have e : ps.flatMap (·.2) = (ps.map (·.1)).flatMap hcells := by
    clear hl hm hr h
    induction ps with
    | nil => rfl
    | cons p r ih =>
      rw [List.flatMap_cons, ih (fun q hq' => hq q (by simp [hq'])), (hq p (by simp)).1]
      simp
  refine ⟨ps.map (·.1), ⟨A, cap, by rw [List.length_map], by rw [List.length_map]; exact hl, by rw [List.length_map]; exact hm, ?_⟩, fun z hz => ?_⟩
  · rw [List.length_map, ← e]
    exact hr
  · obtain ⟨p, hp, rfl⟩ := List.mem_map.1 hz
    exact (hq p hp).2
end
end Go.Proofs.Ytbeelcklbdnjnaa
