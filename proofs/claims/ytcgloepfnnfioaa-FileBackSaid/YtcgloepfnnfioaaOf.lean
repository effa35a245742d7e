/-
  OPENING the laws' arguments: a file by value, its rows read as lists; no text in it is greater than memory.
-/
import Derived.Test.YtcgloepfnnfioaaRd
import Derived.ProofKit
import Derived.OpenShut
import Derived.ShutString
import Derived.ChangeOld
import Derived.Below
import Derived.Carry
import Derived.Lib.SmallJoins
import Derived.SizedLaws
import Derived.Deep.Slices
set_option linter.unusedVariables false
set_option linter.unusedSimpArgs false
namespace Go.Proofs.Ytcgloepfnnfioaa
open Go.Joins Go.ChangeShapes Go.WideShapes Go.ChangeAt Go.RowKit Go.Deep
theorem own : ownKnob Try.prog.godebug = none := by kernel_rfl
theorem laidOut : laidOutB Try.prog = true := by kernel_rfl
/-- Each string, slice and map in d is no greater than memory. -/
def Fits {H : Type} (t : TypeId) (d : DataW H) : Prop := ∀ k ∈ d.weights Try.prog t, k ≤ reachBytes
theorem Fits.str {H : Type} {t : TypeId} {s : ByteArray} (h : Fits (H := H) t (.lit (.string s.data.toList))) : s.size ≤ 1000000000000000 := by
  have := h s.data.toList.length (by simp [DataW.weights])
  have e : reachBytes = 140737488351232 := rfl
  rw [e, Array.length_toList] at this
  show s.data.size ≤ _
  omega
theorem Fits.part {H : Type} {t : TypeId} {fs : Array Field} {parts : List (DataW H)} (ht : Try.prog.underlying t = some (.struct fs)) (h : Fits t (.agg parts)) {j : Nat} {f : Field} {d : DataW H} (hf : fs[j]? = some f) (hd : parts[j]? = some d) : Fits f.type d := fun k hk =>
  h k (by
    simp only [DataW.weights, ht]
    exact DataW.weights_mem_each (j := j) (by simp [hf]) hd k hk)
theorem weights_mem_all {H : Type} {P : Program} {e : TypeId} : ∀ {l : List (DataW H)} {d : DataW H}, d ∈ l → ∀ n ∈ d.weights P e, n ∈ DataW.weightsAll P e l
  | x :: r, d, h, n, hn => by
    simp only [DataW.weightsAll, List.mem_append]
    rcases List.mem_cons.1 h with rfl | h
    · exact .inl hn
    · exact .inr (weights_mem_all h n hn)
theorem Fits.elem {H : Type} {t e : TypeId} {elems spare : List (DataW H)} (ht : Try.prog.underlying t = some (.slice e)) (h : Fits t (.slice elems spare)) {d : DataW H} (hd : d ∈ elems) : Fits e d := fun k hk =>
  h k (by
    simp only [DataW.weights, ht, List.mem_cons, List.mem_append]
    exact .inr (.inl (weights_mem_all hd k hk)))
theorem buildL {α : Type} {P : Nat → α → Prop} (n : Nat) (h : ∀ i, i < n → ∃ q, P i q) : ∃ xs : List α, xs.length = n ∧ ∀ i x, xs[i]? = some x → P i x := by
  induction n with
  | zero => exact ⟨[], rfl, fun i x hi => by simp at hi⟩
  | succ n ih =>
    obtain ⟨xs, hl, hx⟩ := ih (fun i hi => h i (by omega))
    obtain ⟨q, hq⟩ := h n (by omega)
    refine ⟨xs ++ [q], by simp [hl], fun i x hi => ?_⟩
    by_cases hlt : i < xs.length
    · rw [List.getElem?_append_left hlt] at hi
      exact hx i x hi
    · rw [List.getElem?_append_right (by omega)] at hi
      have hz : i - xs.length = 0 := by
        rcases Nat.eq_zero_or_pos (i - xs.length) with h0 | h0
        · exact h0
        · rw [List.getElem?_eq_none (by simp; omega)] at hi; cases hi
      rw [hz] at hi
      simp at hi
      subst hi
      have : i = n := by omega
      subst this
      exact hq
section
variable {H : Type} {enc : TypeId × Value → H} {w : World} {base : Nat} {spare : Nat → Bool} {held : Bool}
theorem open_rows {α : Type} {t e : TypeId} {size fuel : Nat} {v : Value} {x : DataW H × List MemPlace} (Q : α → List Value → Prop) (ht : Try.prog.underlying t = some (.slice e)) (hC : Try.prog.cellsOf e = size) (hs : 0 < size)
    (hB : 1 ≤ Try.prog.bytesOf e) (hel : ∀ n cs y, DataW.trod enc Try.prog w base spare held n e cs = some y → Fits e y.1 → ∃ a : α, Q a cs) (h : DataW.trod enc Try.prog w base spare held fuel t [v] = some x) (hz : Fits t x.1) :
    ∃ (A : Option Addr) (cap : Nat) (ps : List (α × List Value)), v = .slice A ps.length cap ∧ ps.length ≤ cap ∧ ps.length ≤ maxLen ∧ ps.length ≤ 1000000000000000 ∧ (∀ p ∈ ps, Q p.1 p.2) ∧ Reads w w.heap.size size A ps.length (ps.flatMap (·.2)) := by
  rcases open_slice ht h with ⟨h0, _⟩ | ⟨a, len, cap, m, n, D, Pl, hcs, hb, hl, hm, hmm, hx, hi⟩
  · obtain rfl : v = .slice none 0 0 := by simpa using h0
    exact ⟨none, 0, [], rfl, Nat.le_refl _, Nat.zero_le _, Nat.zero_le _, fun p hp => by simp at hp, by simp, fun hn => absurd hn (by simp)⟩
  · obtain rfl : v = .slice (some a) len cap := by simpa using hcs
    have hlm : len ≤ m := by rw [hmm]; split <;> omega
    have key : ∀ i, i < len → ∃ q : α × List Value, Q q.1 q.2 ∧ q.2.length = size ∧ ∀ j, j < size → w.cell? ((a.add (i * size)).add j) = q.2[j]? := by
      intro i hil
      obtain ⟨cs', hc, ht'⟩ := hi i (by omega)
      rw [hC] at hc
      obtain ⟨_, hcl, hat⟩ := World.cells?_some hc
      obtain ⟨q, hq⟩ := hel _ _ _ ht' (by
        rw [hx] at hz
        exact hz.elem ht (List.mem_map.2 ⟨i, List.mem_range.2 hil, rfl⟩))
      exact ⟨(q, cs'), hq, hcl, hat⟩
    obtain ⟨ps, hpl, hps⟩ := buildL len key
    subst hpl
    refine ⟨some a, cap, ps, rfl, hl, by omega, ?_, fun p hp => ?_, ?_, fun hn => ?_⟩
    · have := hz ((ps.length + (m - ps.length)) * Try.prog.bytesOf e) (by rw [hx]; simp only [DataW.weights, ht, List.length_map, List.length_range]; exact List.mem_cons_self)
      have e1 : reachBytes = 140737488351232 := rfl
      rw [e1] at this
      have h2 := Nat.le_trans (Nat.le_mul_of_pos_right (ps.length + (m - ps.length)) hB) this
      omega
    · obtain ⟨k, hk, rfl⟩ := List.getElem_of_mem hp
      exact (hps k _ (List.getElem?_eq_getElem hk)).1
    · have : ∀ p ∈ ps, p.2.length = size := fun p hp => by
        obtain ⟨k, hk, rfl⟩ := List.getElem_of_mem hp
        exact (hps k _ (List.getElem?_eq_getElem hk)).2.1
      clear hps hi key hmm hlm hl hx h hcs
      induction ps with
      | nil => simp
      | cons p r ih =>
        rw [List.flatMap_cons, List.length_append, this p (by simp), ih (fun q hq => this q (by simp [hq])), List.length_cons, Nat.succ_mul]
        omega
    · obtain ⟨p0, hp0⟩ : ∃ p, ps[0]? = some p := ⟨_, List.getElem?_eq_getElem hn⟩
      have g0 := (hps 0 p0 hp0).2.2 0 hs
      have hl0 := (hps 0 p0 hp0).2.1
      have ea : (a.add (0 * size)).add 0 = a := by simp [Addr.add]
      rw [ea, List.getElem?_eq_getElem (by omega)] at g0
      have hsp := World.cell?_spot g0
      have hlt := World.block_lt_of_cell? w _ g0
      obtain ⟨ab, ao, sp⟩ := a
      have hsp' : sp = none := hsp
      subst hsp'
      refine ⟨ab, ao, rfl, hlt, fun j u hu => ?_⟩
      have hjl : j < (ps.flatMap (·.2)).length := (List.getElem?_eq_some_iff.1 hu).1
      have hsz : ∀ p ∈ ps, p.2.length = size := fun p hp => by
        obtain ⟨k, hk, rfl⟩ := List.getElem_of_mem hp
        exact (hps k _ (List.getElem?_eq_getElem hk)).2.1
      have hfl : (ps.flatMap (·.2)).length = ps.length * size := by
        clear hps hi key hmm hlm hl hx h hcs hp0 g0 hu hjl hn
        induction ps with
        | nil => simp
        | cons p r ih =>
          rw [List.flatMap_cons, List.length_append, hsz p (by simp), ih (fun q hq => hsz q (by simp [hq])), List.length_cons, Nat.succ_mul]
          omega
      have hi' : j / size < ps.length := by
        rw [hfl] at hjl
        exact Nat.div_lt_of_lt_mul (by rw [Nat.mul_comm]; exact hjl)
      obtain ⟨p, hp⟩ : ∃ p, ps[j / size]? = some p := ⟨_, List.getElem?_eq_getElem hi'⟩
      have hr : j % size < size := Nat.mod_lt _ hs
      have hj : j = j / size * size + j % size := by rw [Nat.mul_comm]; exact (Nat.div_add_mod j size).symm
      have hq := hps _ _ hp
      have key2 : (ps.flatMap (·.2))[j / size * size + j % size]? = p.2[j % size]? := by
        have gen : ∀ (l : List (α × List Value)), (∀ p ∈ l, p.2.length = size) → ∀ (k : Nat) (x : α × List Value), l[k]? = some x → ∀ r, r < size → (l.flatMap (·.2))[k * size + r]? = x.2[r]? := by
          intro l
          induction l with
          | nil => intro _ k x hx; simp at hx
          | cons y l ih =>
            intro hl k x hx r hr
            cases k with
            | zero =>
              simp only [List.getElem?_cons_zero, Option.some.injEq] at hx
              subst hx
              rw [List.flatMap_cons, Nat.zero_mul, Nat.zero_add, List.getElem?_append_left (by rw [hl _ (by simp)]; exact hr)]
            | succ k =>
              simp only [List.getElem?_cons_succ] at hx
              rw [List.flatMap_cons, List.getElem?_append_right (by rw [hl _ (by simp), Nat.succ_mul]; omega), hl _ (by simp)]
              rw [show (k + 1) * size + r - size = k * size + r by rw [Nat.succ_mul]; omega]
              exact ih (fun q hq => hl q (by simp [hq])) k x hx r hr
        exact gen ps hsz _ p hp _ hr
      rw [hj] at hu ⊢
      rw [key2, ← hq.2.2 _ hr] at hu
      rw [add_of_add, plain_add] at hu
      exact hu
theorem flatMap_same {α β : Type} {f g : α → List β} : ∀ {l : List α}, (∀ x ∈ l, f x = g x) → l.flatMap f = l.flatMap g
  | [], _ => rfl
  | x :: r, h => by rw [List.flatMap_cons, List.flatMap_cons, h x (by simp), flatMap_same fun y hy => h y (by simp [hy])]
theorem k3 : Try.prog.cellsOf 3 = 1 := by kernel_rfl
theorem k9 : Try.prog.cellsOf 9 = 1 := by kernel_rfl
theorem k22 : Try.prog.cellsOf 22 = 1 := by kernel_rfl
theorem k23 : Try.prog.cellsOf 23 = 1 := by kernel_rfl
theorem k24 : Try.prog.cellsOf 24 = 1 := by kernel_rfl
theorem k36 : Try.prog.cellsOf 36 = 1 := by kernel_rfl
set_option maxRecDepth 100000 in
theorem trod_const {fuel : Nat} {cs : List Value} {x : DataW H × List MemPlace} (h : DataW.trod enc Try.prog w base spare held fuel 47 cs = some x) (hz : Fits 47 x.1) : ∃ c : Cn, cs = ccells c ∧ c.text.size ≤ 1000000000000000 := by
  obtain ⟨xs, m, _, rfl, hl, hlx, hf⟩ := DataW.trod_struct Try.underlying47 h
  have hC : Try.prog.cellsOf 47 = 6 := by kernel_rfl
  rw [hC] at hl
  obtain ⟨c0, c1, c2, c3, c4, c5, rfl⟩ : ∃ c0 c1 c2 c3 c4 c5, cs = [c0, c1, c2, c3, c4, c5] := by
    match cs, hl with
    | [c0, c1, c2, c3, c4, c5], _ => exact ⟨c0, c1, c2, c3, c4, c5, rfl⟩
  have hlx' : xs.length = 6 := hlx
  have h0 := hf 0 _ rfl
  have e0 : xs[0]? = some xs[0] := List.getElem?_eq_getElem (by omega)
  rw [e0] at h0
  obtain ⟨z0, hz0, _, _⟩ := DataW.trod_int Try.underlying3 h0
  obtain rfl : c0 = .int .i64 z0 := by simpa [k3] using hz0
  have h1 := hf 1 _ rfl
  have e1 : xs[1]? = some xs[1] := List.getElem?_eq_getElem (by omega)
  rw [e1] at h1
  obtain ⟨z1, hz1, hy1, _⟩ := DataW.trod_string Try.underlying9 h1
  obtain rfl : c1 = .string z1 := by simpa [k9] using hz1
  have hs1 : z1.size ≤ 1000000000000000 := by
    have := hz.part Try.underlying47 (j := 1) rfl (d := xs[1].1) (by rw [List.getElem?_map, e1]; rfl)
    rw [hy1] at this
    exact this.str
  have h2 := hf 2 _ rfl
  have e2 : xs[2]? = some xs[2] := List.getElem?_eq_getElem (by omega)
  rw [e2] at h2
  obtain ⟨z2, hz2, _, _⟩ := DataW.trod_int Try.underlying3 h2
  obtain rfl : c2 = .int .i64 z2 := by simpa [k3] using hz2
  have h3 := hf 3 _ rfl
  have e3 : xs[3]? = some xs[3] := List.getElem?_eq_getElem (by omega)
  rw [e3] at h3
  obtain ⟨z3, hz3, _, _⟩ := DataW.trod_int Try.underlying3 h3
  obtain rfl : c3 = .int .i64 z3 := by simpa [k3] using hz3
  have h4 := hf 4 _ rfl
  have e4 : xs[4]? = some xs[4] := List.getElem?_eq_getElem (by omega)
  rw [e4] at h4
  obtain ⟨z4, hz4, _, _⟩ := DataW.trod_int Try.underlying3 h4
  obtain rfl : c4 = .int .i64 z4 := by simpa [k3] using hz4
  have h5 := hf 5 _ rfl
  have e5 : xs[5]? = some xs[5] := List.getElem?_eq_getElem (by omega)
  rw [e5] at h5
  obtain ⟨z5, hz5, _, _⟩ := DataW.trod_int Try.underlying3 h5
  obtain rfl : c5 = .int .i64 z5 := by simpa [k3] using hz5
  exact ⟨⟨z0, z1, z2, z3, z4, z5⟩, rfl, hs1⟩
set_option maxRecDepth 100000 in
theorem trod_handler {fuel : Nat} {cs : List Value} {x : DataW H × List MemPlace} (h : DataW.trod enc Try.prog w base spare held fuel 76 cs = some x) (hz : Fits 76 x.1) : ∃ c : Hd, cs = hcells c := by
  obtain ⟨xs, m, _, rfl, hl, hlx, hf⟩ := DataW.trod_struct Try.underlying76 h
  have hC : Try.prog.cellsOf 76 = 4 := by kernel_rfl
  rw [hC] at hl
  obtain ⟨c0, c1, c2, c3, rfl⟩ : ∃ c0 c1 c2 c3, cs = [c0, c1, c2, c3] := by
    match cs, hl with
    | [c0, c1, c2, c3], _ => exact ⟨c0, c1, c2, c3, rfl⟩
  have hlx' : xs.length = 4 := hlx
  have h0 := hf 0 _ rfl
  have e0 : xs[0]? = some xs[0] := List.getElem?_eq_getElem (by omega)
  rw [e0] at h0
  obtain ⟨z0, hz0, _, _⟩ := DataW.trod_int Try.underlying3 h0
  obtain rfl : c0 = .int .i64 z0 := by simpa [k3] using hz0
  have h1 := hf 1 _ rfl
  have e1 : xs[1]? = some xs[1] := List.getElem?_eq_getElem (by omega)
  rw [e1] at h1
  obtain ⟨z1, hz1, _, _⟩ := DataW.trod_int Try.underlying3 h1
  obtain rfl : c1 = .int .i64 z1 := by simpa [k3] using hz1
  have h2 := hf 2 _ rfl
  have e2 : xs[2]? = some xs[2] := List.getElem?_eq_getElem (by omega)
  rw [e2] at h2
  obtain ⟨z2, hz2, _, _⟩ := DataW.trod_int Try.underlying3 h2
  obtain rfl : c2 = .int .i64 z2 := by simpa [k3] using hz2
  have h3 := hf 3 _ rfl
  have e3 : xs[3]? = some xs[3] := List.getElem?_eq_getElem (by omega)
  rw [e3] at h3
  obtain ⟨z3, hz3, _, _⟩ := DataW.trod_int Try.underlying3 h3
  obtain rfl : c3 = .int .i64 z3 := by simpa [k3] using hz3
  exact ⟨⟨z0, z1, z2, z3⟩, rfl⟩
theorem open_hrow {fuel : Nat} {v : Value} {x : DataW H × List MemPlace} (h : DataW.trod enc Try.prog w base spare held fuel 36 [v] = some x) (hz : Fits 36 x.1) : ∃ hs, HRow w.heap.size w v hs ∧ hs.length ≤ 1000000000000000 := by
  obtain ⟨A, cap, ps, rfl, hl, hm, hfit, hq, hr⟩ := open_rows (fun (c : Hd) cs => cs = hcells c) Try.underlying36 (size := 4) (by kernel_rfl) (by omega) (of_decide_eq_true (by kernel_rfl)) (fun n cs y h hz => trod_handler h hz) h hz
  have e : ps.flatMap (·.2) = (ps.map (·.1)).flatMap hcells := by
    rw [List.flatMap_map]
    exact flatMap_same fun p hp => hq p hp
  refine ⟨ps.map (·.1), ⟨A, cap, by rw [List.length_map], by rw [List.length_map]; exact hl, by rw [List.length_map]; exact hm, ?_⟩, by rw [List.length_map]; exact hfit⟩
  rw [List.length_map, ← e]
  exact hr
set_option maxRecDepth 100000 in
theorem trod_member {fuel : Nat} {cs : List Value} {x : DataW H × List MemPlace} (h : DataW.trod enc Try.prog w base spare held fuel 38 cs = some x) (hz : Fits 38 x.1) : ∃ m : Mb, (∃ hv, cs = mcells m hv ∧ HRow w.heap.size w hv m.hs) ∧ m.code.size ≤ 1000000000000000 ∧ m.hs.length ≤ 1000000000000000 := by
  obtain ⟨xs, m, _, rfl, hl, hlx, hf⟩ := DataW.trod_struct Try.underlying38 h
  have hC : Try.prog.cellsOf 38 = 7 := by kernel_rfl
  rw [hC] at hl
  obtain ⟨c0, c1, c2, c3, c4, c5, c6, rfl⟩ : ∃ c0 c1 c2 c3 c4 c5 c6, cs = [c0, c1, c2, c3, c4, c5, c6] := by
    match cs, hl with
    | [c0, c1, c2, c3, c4, c5, c6], _ => exact ⟨c0, c1, c2, c3, c4, c5, c6, rfl⟩
  have hlx' : xs.length = 7 := hlx
  have h0 := hf 0 _ rfl
  have e0 : xs[0]? = some xs[0] := List.getElem?_eq_getElem (by omega)
  rw [e0] at h0
  obtain ⟨z0, hz0, _, _⟩ := DataW.trod_int Try.underlying3 h0
  obtain rfl : c0 = .int .i64 z0 := by simpa [k3] using hz0
  have h1 := hf 1 _ rfl
  have e1 : xs[1]? = some xs[1] := List.getElem?_eq_getElem (by omega)
  rw [e1] at h1
  obtain ⟨z1, hz1, _, _⟩ := DataW.trod_int Try.underlying3 h1
  obtain rfl : c1 = .int .i64 z1 := by simpa [k3] using hz1
  have h2 := hf 2 _ rfl
  have e2 : xs[2]? = some xs[2] := List.getElem?_eq_getElem (by omega)
  rw [e2] at h2
  obtain ⟨z2, hz2, _, _⟩ := DataW.trod_int Try.underlying3 h2
  obtain rfl : c2 = .int .i64 z2 := by simpa [k3] using hz2
  have h3 := hf 3 _ rfl
  have e3 : xs[3]? = some xs[3] := List.getElem?_eq_getElem (by omega)
  rw [e3] at h3
  obtain ⟨z3, hz3, _, _⟩ := DataW.trod_int Try.underlying3 h3
  obtain rfl : c3 = .int .i64 z3 := by simpa [k3] using hz3
  have h4 := hf 4 _ rfl
  have e4 : xs[4]? = some xs[4] := List.getElem?_eq_getElem (by omega)
  rw [e4] at h4
  obtain ⟨z4, hz4, _, _⟩ := DataW.trod_int Try.underlying3 h4
  obtain rfl : c4 = .int .i64 z4 := by simpa [k3] using hz4
  have h5 := hf 5 _ rfl
  have e5 : xs[5]? = some xs[5] := List.getElem?_eq_getElem (by omega)
  rw [e5] at h5
  obtain ⟨z5, hz5, hy5, _⟩ := DataW.trod_string Try.underlying9 h5
  obtain rfl : c5 = .string z5 := by simpa [k9] using hz5
  have hs5 : z5.size ≤ 1000000000000000 := by
    have := hz.part Try.underlying38 (j := 5) rfl (d := xs[5].1) (by rw [List.getElem?_map, e5]; rfl)
    rw [hy5] at this
    exact this.str
  have h6 := hf 6 _ rfl
  have e6 : xs[6]? = some xs[6] := List.getElem?_eq_getElem (by omega)
  rw [e6] at h6
  have hh6 : DataW.trod enc Try.prog w base spare held m 36 [c6] = some xs[6] := by simpa [k36] using h6
  have hs6 := hz.part Try.underlying38 (j := 6) rfl (d := xs[6].1) (by rw [List.getElem?_map, e6]; rfl)
  obtain ⟨hs, hr, hrl⟩ := open_hrow hh6 hs6
  exact ⟨⟨z0, z1, z2, z3, z4, z5, hs⟩, ⟨c6, rfl, hr⟩, hs5, hrl⟩
theorem open_crow {fuel : Nat} {v : Value} {x : DataW H × List MemPlace} (h : DataW.trod enc Try.prog w base spare held fuel 22 [v] = some x) (hz : Fits 22 x.1) : ∃ cs, CRow w.heap.size w v cs ∧ ∀ c ∈ cs, c.text.size ≤ 1000000000000000 := by
  obtain ⟨A, cap, ps, rfl, hl, hm, hfit, hq, hr⟩ := open_rows (fun (c : Cn) cs => cs = ccells c ∧ c.text.size ≤ 1000000000000000) Try.underlying22 (size := 6) (by kernel_rfl) (by omega) (of_decide_eq_true (by kernel_rfl)) (fun n cs y h hz => trod_const h hz) h hz
  have e : ps.flatMap (·.2) = (ps.map (·.1)).flatMap ccells := by
    rw [List.flatMap_map]
    exact flatMap_same fun p hp => (hq p hp).1
  refine ⟨ps.map (·.1), ⟨A, cap, by rw [List.length_map], by rw [List.length_map]; exact hl, by rw [List.length_map]; exact hm, ?_⟩, fun c hc => ?_⟩
  · rw [List.length_map, ← e]
    exact hr
  · obtain ⟨p, hp, rfl⟩ := List.mem_map.1 hc
    exact (hq p hp).2
theorem open_irow {fuel : Nat} {v : Value} {x : DataW H × List MemPlace} (h : DataW.trod enc Try.prog w base spare held fuel 23 [v] = some x) (hz : Fits 23 x.1) : ∃ is, IRow w.heap.size w v is := by
  obtain ⟨A, cap, ps, rfl, hl, hm, hfit, hq, hr⟩ := open_rows (fun (c : Int) cs => cs = [.int .i64 c]) Try.underlying23 (size := 1) (by kernel_rfl) (by omega) (of_decide_eq_true (by kernel_rfl)) (fun n cs y h hz => by
    obtain ⟨z, h1, _, _⟩ := DataW.trod_int Try.underlying3 h
    exact ⟨z, h1⟩) h hz
  have e : ps.flatMap (·.2) = iccells (ps.map (·.1)) := by
    unfold iccells
    rw [List.map_map]
    clear hl hm hr h hz hfit
    induction ps with
    | nil => rfl
    | cons p r ih =>
      rw [List.flatMap_cons, ih (fun q hq' => hq q (by simp [hq'])), hq p (by simp)]
      simp
  refine ⟨ps.map (·.1), A, cap, by rw [List.length_map], by rw [List.length_map]; exact hl, by rw [List.length_map]; exact hm, ?_⟩
  rw [List.length_map, ← e]
  exact hr
theorem open_mrow {fuel : Nat} {v : Value} {x : DataW H × List MemPlace} (h : DataW.trod enc Try.prog w base spare held fuel 24 [v] = some x) (hz : Fits 24 x.1) : ∃ ms, MRow w.heap.size w v ms ∧ ∀ m ∈ ms, m.code.size ≤ 1000000000000000 ∧ m.hs.length ≤ 1000000000000000 := by
  obtain ⟨A, cap, ps, rfl, hl, hm, hfit, hq, hr⟩ := open_rows (fun (m : Mb) cs => (∃ hv, cs = mcells m hv ∧ HRow w.heap.size w hv m.hs) ∧ m.code.size ≤ 1000000000000000 ∧ m.hs.length ≤ 1000000000000000) Try.underlying24 (size := 7) (by kernel_rfl) (by omega) (of_decide_eq_true (by kernel_rfl)) (fun n cs y h hz => trod_member h hz) h hz
  obtain ⟨hvs, hvl, hvp⟩ := buildL (P := fun i hv => ∀ p, ps[i]? = some p → p.2 = mcells p.1 hv ∧ HRow w.heap.size w hv p.1.hs) ps.length (fun i hi => by
    obtain ⟨hv, h1, h2⟩ := (hq _ (List.getElem_mem hi)).1
    refine ⟨hv, fun p hp => ?_⟩
    rw [List.getElem?_eq_getElem hi] at hp
    simp only [Option.some.injEq] at hp
    subst hp
    exact ⟨h1, h2⟩)
  have e : ps.flatMap (·.2) = mbcells ((ps.map (·.1)).zip hvs) := by
    clear hl hm hr h hz hq hfit
    unfold mbcells
    induction ps generalizing hvs with
    | nil => rfl
    | cons p r ih =>
      cases hvs with
      | nil => simp at hvl
      | cons hv hvs =>
        rw [List.map_cons, List.zip_cons_cons, List.flatMap_cons, List.flatMap_cons, ← ih hvs (by simpa using hvl) (fun i x hx => hvp (i + 1) x (by simpa using hx)), (hvp 0 hv rfl p rfl).1]
  refine ⟨ps.map (·.1), ⟨hvs, by rw [hvl, List.length_map], fun i m hv h1 h2 => ?_, A, cap, by rw [List.length_map], by rw [List.length_map]; exact hl, by rw [List.length_map]; exact hm, ?_⟩, fun m hm' => ?_⟩
  · rw [List.getElem?_map] at h1
    obtain ⟨p, hp, rfl⟩ := Option.map_eq_some_iff.1 h1
    exact (hvp i hv h2 p hp).2
  · rw [List.length_map, ← e]
    exact hr
  · obtain ⟨p, hp, rfl⟩ := List.mem_map.1 hm'
    exact (hq p hp).2
set_option maxRecDepth 100000 in
theorem open_file {r : Reach} {b0 : Nat} {v : Value} {d : DataW H} {p : List MemPlace} (hv : Value.okWide Try.prog w r b0 26 v) (h : DataW.Trod enc Try.prog w base spare held 26 v d p) (hz : Fits 26 d) :
    ∃ f : Fl, FileAt w.heap.size w v f ∧ (∀ c ∈ f.pool, c.text.size ≤ 1000000000000000) ∧ (∀ m ∈ f.fds, m.code.size ≤ 1000000000000000 ∧ m.hs.length ≤ 1000000000000000) ∧ ∀ m ∈ f.mts, m.code.size ≤ 1000000000000000 ∧ m.hs.length ≤ 1000000000000000 := by
  obtain ⟨cs, rfl, hsz⟩ := okWide_struct Try.underlying26 hv
  have hC : Try.prog.cellsOf 26 = 7 := by kernel_rfl
  rw [hC] at hsz
  obtain ⟨l⟩ := cs
  obtain ⟨c0, c1, c2, c3, c4, c5, c6, rfl⟩ : ∃ c0 c1 c2 c3 c4 c5 c6, l = [c0, c1, c2, c3, c4, c5, c6] := by
    match l, hsz with
    | [c0, c1, c2, c3, c4, c5, c6], _ => exact ⟨c0, c1, c2, c3, c4, c5, c6, rfl⟩
  obtain ⟨fuel, hf⟩ := h
  obtain ⟨xs, m, _, hx, hl, hlx, hff⟩ := DataW.trod_struct Try.underlying26 hf
  simp only [Prod.mk.injEq] at hx
  obtain ⟨rfl, _⟩ := hx
  have hlx' : xs.length = 7 := hlx
  have h0 : DataW.trod enc Try.prog w base spare held m 22 (([c0, c1, c2, c3, c4, c5, c6].drop 0).take (Try.prog.cellsOf 22)) = xs[0]? := hff 0 _ rfl
  have e0 : xs[0]? = some xs[0] := List.getElem?_eq_getElem (by omega)
  rw [e0] at h0
  have g0 : DataW.trod enc Try.prog w base spare held m 22 [c0] = some xs[0] := by simpa [k22] using h0
  have s0 : Fits 22 xs[0].1 := hz.part Try.underlying26 (j := 0) rfl (d := xs[0].1) (by rw [List.getElem?_map, e0]; rfl)
  have h1 : DataW.trod enc Try.prog w base spare held m 3 (([c0, c1, c2, c3, c4, c5, c6].drop 1).take (Try.prog.cellsOf 3)) = xs[1]? := hff 1 _ rfl
  have e1 : xs[1]? = some xs[1] := List.getElem?_eq_getElem (by omega)
  rw [e1] at h1
  have g1 : DataW.trod enc Try.prog w base spare held m 3 [c1] = some xs[1] := by simpa [k3] using h1
  have s1 : Fits 3 xs[1].1 := hz.part Try.underlying26 (j := 1) rfl (d := xs[1].1) (by rw [List.getElem?_map, e1]; rfl)
  have h2 : DataW.trod enc Try.prog w base spare held m 3 (([c0, c1, c2, c3, c4, c5, c6].drop 2).take (Try.prog.cellsOf 3)) = xs[2]? := hff 2 _ rfl
  have e2 : xs[2]? = some xs[2] := List.getElem?_eq_getElem (by omega)
  rw [e2] at h2
  have g2 : DataW.trod enc Try.prog w base spare held m 3 [c2] = some xs[2] := by simpa [k3] using h2
  have s2 : Fits 3 xs[2].1 := hz.part Try.underlying26 (j := 2) rfl (d := xs[2].1) (by rw [List.getElem?_map, e2]; rfl)
  have h3 : DataW.trod enc Try.prog w base spare held m 3 (([c0, c1, c2, c3, c4, c5, c6].drop 3).take (Try.prog.cellsOf 3)) = xs[3]? := hff 3 _ rfl
  have e3 : xs[3]? = some xs[3] := List.getElem?_eq_getElem (by omega)
  rw [e3] at h3
  have g3 : DataW.trod enc Try.prog w base spare held m 3 [c3] = some xs[3] := by simpa [k3] using h3
  have s3 : Fits 3 xs[3].1 := hz.part Try.underlying26 (j := 3) rfl (d := xs[3].1) (by rw [List.getElem?_map, e3]; rfl)
  have h4 : DataW.trod enc Try.prog w base spare held m 23 (([c0, c1, c2, c3, c4, c5, c6].drop 4).take (Try.prog.cellsOf 23)) = xs[4]? := hff 4 _ rfl
  have e4 : xs[4]? = some xs[4] := List.getElem?_eq_getElem (by omega)
  rw [e4] at h4
  have g4 : DataW.trod enc Try.prog w base spare held m 23 [c4] = some xs[4] := by simpa [k23] using h4
  have s4 : Fits 23 xs[4].1 := hz.part Try.underlying26 (j := 4) rfl (d := xs[4].1) (by rw [List.getElem?_map, e4]; rfl)
  have h5 : DataW.trod enc Try.prog w base spare held m 24 (([c0, c1, c2, c3, c4, c5, c6].drop 5).take (Try.prog.cellsOf 24)) = xs[5]? := hff 5 _ rfl
  have e5 : xs[5]? = some xs[5] := List.getElem?_eq_getElem (by omega)
  rw [e5] at h5
  have g5 : DataW.trod enc Try.prog w base spare held m 24 [c5] = some xs[5] := by simpa [k24] using h5
  have s5 : Fits 24 xs[5].1 := hz.part Try.underlying26 (j := 5) rfl (d := xs[5].1) (by rw [List.getElem?_map, e5]; rfl)
  have h6 : DataW.trod enc Try.prog w base spare held m 24 (([c0, c1, c2, c3, c4, c5, c6].drop 6).take (Try.prog.cellsOf 24)) = xs[6]? := hff 6 _ rfl
  have e6 : xs[6]? = some xs[6] := List.getElem?_eq_getElem (by omega)
  rw [e6] at h6
  have g6 : DataW.trod enc Try.prog w base spare held m 24 [c6] = some xs[6] := by simpa [k24] using h6
  have s6 : Fits 24 xs[6].1 := hz.part Try.underlying26 (j := 6) rfl (d := xs[6].1) (by rw [List.getElem?_map, e6]; rfl)
  obtain ⟨pool, hp, hpt⟩ := open_crow g0 s0
  obtain ⟨z1, hz1, _, _⟩ := DataW.trod_int Try.underlying3 g1
  obtain ⟨z2, hz2, _, _⟩ := DataW.trod_int Try.underlying3 g2
  obtain ⟨z3, hz3, _, _⟩ := DataW.trod_int Try.underlying3 g3
  obtain ⟨is, hi⟩ := open_irow g4 s4
  obtain ⟨fds, hfd, hfc⟩ := open_mrow g5 s5
  obtain ⟨mts, hmt, hmc⟩ := open_mrow g6 s6
  obtain rfl : c1 = .int .i64 z1 := by simpa using hz1
  obtain rfl : c2 = .int .i64 z2 := by simpa using hz2
  obtain rfl : c3 = .int .i64 z3 := by simpa using hz3
  obtain ⟨Ap, cp, rfl, _⟩ := id hp
  obtain ⟨Ai, ci, rfl, _⟩ := id hi
  obtain ⟨_, _, _, Af, cf, rfl, _⟩ := id hfd
  obtain ⟨_, _, _, Am, cm, rfl, _⟩ := id hmt
  exact ⟨⟨pool, z1, z2, z3, is, fds, mts⟩, ⟨Ap, cp, Ai, ci, Af, cf, Am, cm, rfl, hp, hi, hfd, hmt⟩, hpt, hfc, hmc⟩
end
end Go.Proofs.Ytcgloepfnnfioaa
