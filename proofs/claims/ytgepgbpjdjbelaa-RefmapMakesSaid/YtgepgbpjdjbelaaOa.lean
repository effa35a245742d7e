/-
  OPENING the laws' arguments: rows of rows of bits, rows of numbers.
-/
import Derived.Test.YtgepgbpjdjbelaaRl
import Derived.ProofKit
import Derived.OpenShut
import Derived.ShutString
import Derived.ChangeOld
import Derived.Below
import Derived.Carry
import Derived.Lib.SmallJoins
import Derived.Deep.Slices
set_option linter.unusedVariables false
set_option linter.unusedSimpArgs false
namespace Go.Proofs.Ytgepgbpjdjbelaa
open Go.Joins Go.ChangeShapes Go.WideShapes Go.ChangeAt Go.RowKit Go.Deep
theorem add_of_add (a : Addr) (i j : Nat) : (a.add i).add j = a.add (i + j) := by
  unfold Addr.add
  by_cases hi : i = 0 <;> by_cases hj : j = 0 <;> simp [hi, hj, Nat.add_assoc]
theorem own : ownKnob Try.prog.godebug = none := by kernel_rfl
theorem laidOut : laidOutB Try.prog = true := by kernel_rfl
theorem buildL {α : Type} {P : Nat → α → Prop} (n : Nat) (h : ∀ i, i < n → ∃ q, P i q) : ∃ xs : List α, xs.length = n ∧ ∀ i x, xs[i]? = some x → P i x := by
  induction n with
  | zero => exact ⟨[], rfl, fun i x hi => by simp at hi⟩
  | succ n ih =>
    obtain ⟨xs, hl, hx⟩ := ih (fun i hi => h i (by omega))
    obtain ⟨q, hq⟩ := h n (by omega)
    refine ⟨xs ++ [q], by simp [hl], fun i x hi => ?_⟩
    by_cases hlt : i < xs.length
    · rw [List.getElem?_append_left hlt] at hi
      exact hx i x hi
    · rw [List.getElem?_append_right (by omega)] at hi
      have hz : i - xs.length = 0 := by
        rcases Nat.eq_zero_or_pos (i - xs.length) with h0 | h0
        · exact h0
        · rw [List.getElem?_eq_none (by simp; omega)] at hi; cases hi
      rw [hz] at hi
      simp at hi
      subst hi
      have : i = n := by omega
      subst this
      exact hq
theorem wf_in {z : Int} (h : (Lit.int .i64 z).wf = true) : -9223372036854775808 ≤ z ∧ z ≤ 9223372036854775807 := by
  simp only [Lit.wf, Bool.and_eq_true, decide_eq_true_eq] at h
  exact h
section
variable {H : Type} {enc : TypeId × Value → H} {w : World} {base : Nat} {spare : Nat → Bool} {held : Bool}
theorem open_rows {α : Type} {t e : TypeId} {size fuel : Nat} {v : Value} {x : DataW H × List MemPlace} (Q : α → List Value → Prop) (ht : Try.prog.underlying t = some (.slice e)) (hC : Try.prog.cellsOf e = size) (hs : 0 < size)
    (hel : ∀ n cs y, DataW.trod enc Try.prog w base spare held n e cs = some y → ∃ a : α, Q a cs) (h : DataW.trod enc Try.prog w base spare held fuel t [v] = some x) :
    ∃ (A : Option Addr) (cap : Nat) (ps : List (α × List Value)), v = .slice A ps.length cap ∧ ps.length ≤ cap ∧ ps.length ≤ maxLen ∧ (∀ p ∈ ps, Q p.1 p.2) ∧ Reads w w.heap.size size A ps.length (ps.flatMap (·.2)) := by
  rcases open_slice ht h with ⟨h0, _⟩ | ⟨a, len, cap, m, n, D, Pl, hcs, hb, hl, hm, hmm, hx, hi⟩
  · obtain rfl : v = .slice none 0 0 := by simpa using h0
    exact ⟨none, 0, [], rfl, Nat.le_refl _, Nat.zero_le _, fun p hp => by simp at hp, by simp, fun hn => absurd hn (by simp)⟩
  · obtain rfl : v = .slice (some a) len cap := by simpa using hcs
    have hlm : len ≤ m := by rw [hmm]; split <;> omega
    have key : ∀ i, i < len → ∃ q : α × List Value, Q q.1 q.2 ∧ q.2.length = size ∧ ∀ j, j < size → w.cell? ((a.add (i * size)).add j) = q.2[j]? := by
      intro i hil
      obtain ⟨cs', hc, ht'⟩ := hi i (by omega)
      rw [hC] at hc
      obtain ⟨_, hcl, hat⟩ := World.cells?_some hc
      obtain ⟨q, hq⟩ := hel _ _ _ ht'
      exact ⟨(q, cs'), hq, hcl, hat⟩
    obtain ⟨ps, hpl, hps⟩ := buildL len key
    subst hpl
    refine ⟨some a, cap, ps, rfl, hl, by omega, fun p hp => ?_, ?_, fun hn => ?_⟩
    · obtain ⟨k, hk, rfl⟩ := List.getElem_of_mem hp
      exact (hps k _ (List.getElem?_eq_getElem hk)).1
    · have : ∀ p ∈ ps, p.2.length = size := fun p hp => by
        obtain ⟨k, hk, rfl⟩ := List.getElem_of_mem hp
        exact (hps k _ (List.getElem?_eq_getElem hk)).2.1
      clear hps hi key hmm hlm hl hx h hcs
      induction ps with
      | nil => simp
      | cons p r ih =>
        rw [List.flatMap_cons, List.length_append, this p (by simp), ih (fun q hq => this q (by simp [hq])), List.length_cons, Nat.succ_mul]
        omega
    · obtain ⟨p0, hp0⟩ : ∃ p, ps[0]? = some p := ⟨_, List.getElem?_eq_getElem hn⟩
      have g0 := (hps 0 p0 hp0).2.2 0 hs
      have hl0 := (hps 0 p0 hp0).2.1
      have ea : (a.add (0 * size)).add 0 = a := by simp [Addr.add]
      rw [ea, List.getElem?_eq_getElem (by omega)] at g0
      have hsp := World.cell?_spot g0
      have hlt := World.block_lt_of_cell? w _ g0
      obtain ⟨ab, ao, sp⟩ := a
      have hsp' : sp = none := hsp
      subst hsp'
      refine ⟨ab, ao, rfl, hlt, fun j u hu => ?_⟩
      have hjl : j < (ps.flatMap (·.2)).length := (List.getElem?_eq_some_iff.1 hu).1
      have hsz : ∀ p ∈ ps, p.2.length = size := fun p hp => by
        obtain ⟨k, hk, rfl⟩ := List.getElem_of_mem hp
        exact (hps k _ (List.getElem?_eq_getElem hk)).2.1
      have hfl : (ps.flatMap (·.2)).length = ps.length * size := by
        clear hps hi key hmm hlm hl hx h hcs hp0 g0 hu hjl hn
        induction ps with
        | nil => simp
        | cons p r ih =>
          rw [List.flatMap_cons, List.length_append, hsz p (by simp), ih (fun q hq => hsz q (by simp [hq])), List.length_cons, Nat.succ_mul]
          omega
      have hi' : j / size < ps.length := by
        rw [hfl] at hjl
        exact Nat.div_lt_of_lt_mul (by rw [Nat.mul_comm]; exact hjl)
      obtain ⟨p, hp⟩ : ∃ p, ps[j / size]? = some p := ⟨_, List.getElem?_eq_getElem hi'⟩
      have hr : j % size < size := Nat.mod_lt _ hs
      have hj : j = j / size * size + j % size := by rw [Nat.mul_comm]; exact (Nat.div_add_mod j size).symm
      have hq := hps _ _ hp
      have key2 : (ps.flatMap (·.2))[j / size * size + j % size]? = p.2[j % size]? := by
        have gen : ∀ (l : List (α × List Value)), (∀ p ∈ l, p.2.length = size) → ∀ (k : Nat) (x : α × List Value), l[k]? = some x → ∀ r, r < size → (l.flatMap (·.2))[k * size + r]? = x.2[r]? := by
          intro l
          induction l with
          | nil => intro _ k x hx; simp at hx
          | cons y l ih =>
            intro hl k x hx r hr
            cases k with
            | zero =>
              simp only [List.getElem?_cons_zero, Option.some.injEq] at hx
              subst hx
              rw [List.flatMap_cons, Nat.zero_mul, Nat.zero_add, List.getElem?_append_left (by rw [hl _ (by simp)]; exact hr)]
            | succ k =>
              simp only [List.getElem?_cons_succ] at hx
              rw [List.flatMap_cons, List.getElem?_append_right (by rw [hl _ (by simp), Nat.succ_mul]; omega), hl _ (by simp)]
              rw [show (k + 1) * size + r - size = k * size + r by rw [Nat.succ_mul]; omega]
              exact ih (fun q hq => hl q (by simp [hq])) k x hx r hr
        exact gen ps hsz _ p hp _ hr
      rw [hj] at hu ⊢
      rw [key2, ← hq.2.2 _ hr] at hu
      rw [add_of_add, plain_add] at hu
      exact hu
theorem k3 : Try.prog.cellsOf 3 = 1 := by kernel_rfl
theorem open_bools {fuel : Nat} {v : Value} {x : DataW H × List MemPlace} (h : DataW.trod enc Try.prog w base spare held fuel 23 [v] = some x) : ∃ l : List Bool, BRow w.heap.size w v l := by
  obtain ⟨A, cap, ps, rfl, hl, hm, hq, hr⟩ := open_rows (fun (c : Bool) cs => cs = [.bool c]) Try.underlying23 (size := 1) (by kernel_rfl) (by omega) (fun n cs y h => by
    obtain ⟨b, hb, _⟩ := DataW.trod_bool Try.underlying4 h
    exact ⟨b, hb⟩) h
  have e : ps.flatMap (·.2) = bcells (ps.map (·.1)) := by
    clear hl hm hr h
    induction ps with
    | nil => rfl
    | cons p r ih =>
      rw [List.flatMap_cons, ih (fun q hq' => hq q (by simp [hq'])), (hq p (by simp))]
      simp [bcells]
  exact ⟨ps.map (·.1), A, cap, by rw [List.length_map], by rw [List.length_map]; exact hl, by rw [List.length_map]; exact hm, by rw [List.length_map, ← e]; exact hr⟩
theorem open_bbs {fuel : Nat} {v : Value} {x : DataW H × List MemPlace} (h : DataW.trod enc Try.prog w base spare held fuel 43 [v] = some x) : ∃ ls : List (List Bool), BBRow w.heap.size w v ls := by
  obtain ⟨A, cap, ps, rfl, hl, hm, hq, hr⟩ := open_rows (fun (m : List Bool × Value) cs => cs = [m.2] ∧ BRow w.heap.size w m.2 m.1) Try.underlying43 (size := 1) (by kernel_rfl) (by omega) (fun n cs y h => by
    obtain ⟨c, rfl⟩ : ∃ c, cs = [c] := by
      rcases DataW.trod_slice Try.underlying23 h with ⟨e, _⟩ | ⟨a, len, cap, _, _, _, _, e, _⟩
      · exact ⟨_, e⟩
      · exact ⟨_, e⟩
    obtain ⟨l, h1⟩ := open_bools h
    exact ⟨(l, c), rfl, h1⟩) h
  have e : ps.flatMap (·.2) = ps.map (·.1.2) := by
    clear hl hm hr h
    induction ps with
    | nil => rfl
    | cons p r ih =>
      rw [List.flatMap_cons, ih (fun q hq' => hq q (by simp [hq'])), (hq p (by simp)).1]
      rfl
  refine ⟨ps.map (·.1.1), ⟨ps.map (·.1.2), by simp, fun i l x hi hx => ?_, A, cap, by rw [List.length_map], by rw [List.length_map]; exact hl, by rw [List.length_map]; exact hm, by rw [List.length_map, ← e]; exact hr⟩⟩
  rw [List.getElem?_map] at hi hx
  cases hp : ps[i]? with
  | none => rw [hp] at hi; cases hi
  | some p =>
    rw [hp] at hi hx
    cases hi; cases hx
    exact (hq p (List.mem_of_getElem? hp)).2
theorem open_nums {fuel : Nat} {v : Value} {x : DataW H × List MemPlace} (h : DataW.trod enc Try.prog w base spare held fuel 44 [v] = some x) : ∃ l : List Int, IRow w.heap.size w v l ∧ ∀ z ∈ l, -9223372036854775808 ≤ z ∧ z ≤ 9223372036854775807 := by
  obtain ⟨A, cap, ps, rfl, hl, hm, hq, hr⟩ := open_rows (fun (c : Int) cs => cs = [.int .i64 c] ∧ -9223372036854775808 ≤ c ∧ c ≤ 9223372036854775807) Try.underlying44 (size := 1) (by kernel_rfl) (by omega) (fun n cs y h => by
    obtain ⟨z0, hz0, _, hw0⟩ := DataW.trod_int Try.underlying3 h
    exact ⟨z0, hz0, wf_in hw0⟩) h
  have e : ps.flatMap (·.2) = icells (ps.map (·.1)) := by
    clear hl hm hr h
    induction ps with
    | nil => rfl
    | cons p r ih =>
      rw [List.flatMap_cons, ih (fun q hq' => hq q (by simp [hq'])), (hq p (by simp)).1]
      simp [icells]
  refine ⟨ps.map (·.1), ?_, fun z hz => ?_⟩
  · exact ⟨A, cap, by rw [List.length_map], by rw [List.length_map]; exact hl, by rw [List.length_map]; exact hm, by rw [List.length_map, ← e]; exact hr⟩
  · obtain ⟨p, hp, rfl⟩ := List.mem_map.1 hz
    exact (hq p hp).2
end
end Go.Proofs.Ytgepgbpjdjbelaa
