/-
  OPENING RefmapMakes' arguments: rows of states, with what the sizes of the input say of them.
-/
import Derived.Test.YtgepgbpjdjbelaaOa
import Derived.Test.YtgepgbpjdjbelaaRt
import Derived.SizedLaws
set_option linter.unusedVariables false
set_option linter.unusedSimpArgs false
namespace Go.Proofs.Ytgepgbpjdjbelaa
open Go.Joins Go.ChangeShapes Go.WideShapes Go.ChangeAt Go.RowKit Go.Deep
section
variable {H : Type} {enc : TypeId × Value → H} {w : World} {base : Nat} {spare : Nat → Bool} {held : Bool}
theorem weightsAll_mem {P : Program} {e : TypeId} : ∀ {ds : List (DataW H)} {d : DataW H}, d ∈ ds → ∀ n ∈ d.weights P e, n ∈ DataW.weightsAll P e ds
  | d0 :: ds, d, h, n, hn => by
    simp only [DataW.weightsAll, List.mem_append]
    rcases List.mem_cons.1 h with rfl | h
    · exact Or.inl hn
    · exact Or.inr (weightsAll_mem h n hn)
theorem open_rowsW {α : Type} {t e : TypeId} {size fuel : Nat} {v : Value} {x : DataW H × List MemPlace} (Q : α → List Value → Prop) (ht : Try.prog.underlying t = some (.slice e)) (hC : Try.prog.cellsOf e = size) (hs : 0 < size)
    (R : Nat) (hel : ∀ n cs y, DataW.trod enc Try.prog w base spare held n e cs = some y → (∀ k ∈ y.1.weights Try.prog e, k ≤ R) → ∃ a : α, Q a cs) (h : DataW.trod enc Try.prog w base spare held fuel t [v] = some x) (hw : ∀ k ∈ x.1.weights Try.prog t, k ≤ R) :
    ∃ (A : Option Addr) (cap : Nat) (ps : List (α × List Value)), v = .slice A ps.length cap ∧ ps.length * Try.prog.bytesOf e ≤ R ∧ ps.length ≤ cap ∧ ps.length ≤ maxLen ∧ (∀ p ∈ ps, Q p.1 p.2) ∧ Reads w w.heap.size size A ps.length (ps.flatMap (·.2)) := by
  rcases open_slice ht h with ⟨h0, _⟩ | ⟨a, len, cap, m, n, D, Pl, hcs, hb, hl, hm, hmm, hx, hi⟩
  · obtain rfl : v = .slice none 0 0 := by simpa using h0
    exact ⟨none, 0, [], rfl, by simp, Nat.le_refl _, Nat.zero_le _, fun p hp => by simp at hp, by simp, fun hn => absurd hn (by simp)⟩
  · obtain rfl : v = .slice (some a) len cap := by simpa using hcs
    have hlm : len ≤ m := by rw [hmm]; split <;> omega
    subst hx
    have hW0 : len * Try.prog.bytesOf e ≤ R := by
      have := hw ((((List.range len).map D).length + ((List.range (m - len)).map fun j => D (len + j)).length) * Try.prog.bytesOf e) (by simp [DataW.weights, ht])
      simp only [List.length_map, List.length_range] at this
      exact Nat.le_trans (Nat.mul_le_mul_right _ (Nat.le_add_right _ _)) this
    have hWi : ∀ i, i < len → ∀ k ∈ (D i).weights Try.prog e, k ≤ R := fun i hi k hk => hw k (by
      simp only [DataW.weights, ht]
      exact List.mem_cons_of_mem _ (List.mem_append_left _ (weightsAll_mem (List.mem_map.2 ⟨i, List.mem_range.2 hi, rfl⟩) k hk)))
    clear hw
    have key : ∀ i, i < len → ∃ q : α × List Value, Q q.1 q.2 ∧ q.2.length = size ∧ ∀ j, j < size → w.cell? ((a.add (i * size)).add j) = q.2[j]? := by
      intro i hil
      obtain ⟨cs', hc, ht'⟩ := hi i (by omega)
      rw [hC] at hc
      obtain ⟨_, hcl, hat⟩ := World.cells?_some hc
      obtain ⟨q, hq⟩ := hel _ _ _ ht' (hWi i hil)
      exact ⟨(q, cs'), hq, hcl, hat⟩
    obtain ⟨ps, hpl, hps⟩ := buildL len key
    subst hpl
    refine ⟨some a, cap, ps, rfl, hW0, hl, by omega, fun p hp => ?_, ?_, fun hn => ?_⟩
    · obtain ⟨k, hk, rfl⟩ := List.getElem_of_mem hp
      exact (hps k _ (List.getElem?_eq_getElem hk)).1
    · have : ∀ p ∈ ps, p.2.length = size := fun p hp => by
        obtain ⟨k, hk, rfl⟩ := List.getElem_of_mem hp
        exact (hps k _ (List.getElem?_eq_getElem hk)).2.1
      clear hps hi key hmm hlm hl h hcs hW0 hWi
      induction ps with
      | nil => simp
      | cons p r ih =>
        rw [List.flatMap_cons, List.length_append, this p (by simp), ih (fun q hq => this q (by simp [hq])), List.length_cons, Nat.succ_mul]
        omega
    · obtain ⟨p0, hp0⟩ : ∃ p, ps[0]? = some p := ⟨_, List.getElem?_eq_getElem hn⟩
      have g0 := (hps 0 p0 hp0).2.2 0 hs
      have hl0 := (hps 0 p0 hp0).2.1
      have ea : (a.add (0 * size)).add 0 = a := by simp [Addr.add]
      rw [ea, List.getElem?_eq_getElem (by omega)] at g0
      have hsp := World.cell?_spot g0
      have hlt := World.block_lt_of_cell? w _ g0
      obtain ⟨ab, ao, sp⟩ := a
      have hsp' : sp = none := hsp
      subst hsp'
      refine ⟨ab, ao, rfl, hlt, fun j u hu => ?_⟩
      have hjl : j < (ps.flatMap (·.2)).length := (List.getElem?_eq_some_iff.1 hu).1
      have hsz : ∀ p ∈ ps, p.2.length = size := fun p hp => by
        obtain ⟨k, hk, rfl⟩ := List.getElem_of_mem hp
        exact (hps k _ (List.getElem?_eq_getElem hk)).2.1
      have hfl : (ps.flatMap (·.2)).length = ps.length * size := by
        clear hps hi key hmm hlm hl h hcs hW0 hWi hp0 g0 hu hjl hn
        induction ps with
        | nil => simp
        | cons p r ih =>
          rw [List.flatMap_cons, List.length_append, hsz p (by simp), ih (fun q hq => hsz q (by simp [hq])), List.length_cons, Nat.succ_mul]
          omega
      have hi' : j / size < ps.length := by
        rw [hfl] at hjl
        exact Nat.div_lt_of_lt_mul (by rw [Nat.mul_comm]; exact hjl)
      obtain ⟨p, hp⟩ : ∃ p, ps[j / size]? = some p := ⟨_, List.getElem?_eq_getElem hi'⟩
      have hr : j % size < size := Nat.mod_lt _ hs
      have hj : j = j / size * size + j % size := by rw [Nat.mul_comm]; exact (Nat.div_add_mod j size).symm
      have hq := hps _ _ hp
      have key2 : (ps.flatMap (·.2))[j / size * size + j % size]? = p.2[j % size]? := by
        have gen : ∀ (l : List (α × List Value)), (∀ p ∈ l, p.2.length = size) → ∀ (k : Nat) (x : α × List Value), l[k]? = some x → ∀ r, r < size → (l.flatMap (·.2))[k * size + r]? = x.2[r]? := by
          intro l
          induction l with
          | nil => intro _ k x hx; simp at hx
          | cons y l ih =>
            intro hl k x hx r hr
            cases k with
            | zero =>
              simp only [List.getElem?_cons_zero, Option.some.injEq] at hx
              subst hx
              rw [List.flatMap_cons, Nat.zero_mul, Nat.zero_add, List.getElem?_append_left (by rw [hl _ (by simp)]; exact hr)]
            | succ k =>
              simp only [List.getElem?_cons_succ] at hx
              rw [List.flatMap_cons, List.getElem?_append_right (by rw [hl _ (by simp), Nat.succ_mul]; omega), hl _ (by simp)]
              rw [show (k + 1) * size + r - size = k * size + r by rw [Nat.succ_mul]; omega]
              exact ih (fun q hq => hl q (by simp [hq])) k x hx r hr
        exact gen ps hsz _ p hp _ hr
      rw [hj] at hu ⊢
      rw [key2, ← hq.2.2 _ hr] at hu
      rw [add_of_add, plain_add] at hu
      exact hu
theorem k9' : Try.prog.cellsOf 9 = 1 := by kernel_rfl
theorem k29 : Try.prog.cellsOf 29 = 1 := by kernel_rfl
theorem b64 : Try.prog.bytesOf 64 = 40 := by kernel_rfl
theorem b31 : Try.prog.bytesOf 31 = 48 := by kernel_rfl
set_option maxRecDepth 100000 in
theorem trod_ty {fuel : Nat} {cs : List Value} {x : DataW H × List MemPlace} (h : DataW.trod enc Try.prog w base spare held fuel 62 cs = some x) : ∃ t : Int × ByteArray, cs = [.int .i64 t.1, .string t.2] := by
  obtain ⟨xs, m, _, rfl, hl, hlx, hf⟩ := DataW.trod_struct Try.underlying62 h
  have hC : Try.prog.cellsOf 62 = 2 := by kernel_rfl
  rw [hC] at hl
  obtain ⟨c0, c1, rfl⟩ : ∃ c0 c1, cs = [c0, c1] := by
    match cs, hl with
    | [c0, c1], _ => exact ⟨c0, c1, rfl⟩
  have hlx' : xs.length = 2 := hlx
  have h0 := hf 0 _ rfl
  have e0 : xs[0]? = some xs[0] := List.getElem?_eq_getElem (by omega)
  rw [e0] at h0
  obtain ⟨z0, hz0, _, hw0⟩ := DataW.trod_int Try.underlying3 h0
  obtain rfl : c0 = .int .i64 z0 := by simpa [k3] using hz0
  have h1 := hf 1 _ rfl
  have e1 : xs[1]? = some xs[1] := List.getElem?_eq_getElem (by omega)
  rw [e1] at h1
  obtain ⟨s, hs, _, _⟩ := DataW.trod_string Try.underlying9 h1
  obtain rfl : c1 = .string s := by simpa [k9'] using hs
  exact ⟨(z0, s), rfl⟩
set_option maxRecDepth 100000 in
theorem trod_known {fuel : Nat} {cs : List Value} {x : DataW H × List MemPlace} (h : DataW.trod enc Try.prog w base spare held fuel 64 cs = some x) : ∃ q : KQ, cs = kcells q := by
  obtain ⟨xs, m, _, rfl, hl, hlx, hf⟩ := DataW.trod_struct Try.underlying64 h
  have hC : Try.prog.cellsOf 64 = 4 := by kernel_rfl
  rw [hC] at hl
  obtain ⟨c0, c1, c2, c3, rfl⟩ : ∃ c0 c1 c2 c3, cs = [c0, c1, c2, c3] := by
    match cs, hl with
    | [c0, c1, c2, c3], _ => exact ⟨c0, c1, c2, c3, rfl⟩
  have hlx' : xs.length = 3 := hlx
  have h0 := hf 0 _ rfl
  have e0 : xs[0]? = some xs[0] := List.getElem?_eq_getElem (by omega)
  rw [e0] at h0
  obtain ⟨z0, hz0, _, hw0⟩ := DataW.trod_int Try.underlying3 h0
  obtain rfl : c0 = .int .i64 z0 := by simpa [k3] using hz0
  have h1 := hf 1 _ rfl
  have e1 : xs[1]? = some xs[1] := List.getElem?_eq_getElem (by omega)
  rw [e1] at h1
  obtain ⟨⟨d, s⟩, ht⟩ := trod_ty h1
  have hT : Try.prog.cellsOf 62 = 2 := by kernel_rfl
  obtain ⟨rfl, rfl⟩ : c1 = .int .i64 d ∧ c2 = .string s := by simpa [hT] using ht
  have h2 := hf 2 _ rfl
  have e2 : xs[2]? = some xs[2] := List.getElem?_eq_getElem (by omega)
  rw [e2] at h2
  obtain ⟨z2, hz2, _, hw2⟩ := DataW.trod_int Try.underlying3 h2
  obtain rfl : c3 = .int .i64 z2 := by simpa [k3] using hz2
  exact ⟨(z0, d, s, z2), rfl⟩
theorem open_knowns {R fuel : Nat} {v : Value} {x : DataW H × List MemPlace} (h : DataW.trod enc Try.prog w base spare held fuel 29 [v] = some x) (hw : ∀ k ∈ x.1.weights Try.prog 29, k ≤ R) : ∃ l : List KQ, KRow w.heap.size w v l ∧ l.length * 40 ≤ R := by
  obtain ⟨A, cap, ps, rfl, hby, hl, hm, hq, hr⟩ := open_rowsW (fun (q : KQ) cs => cs = kcells q) Try.underlying29 (size := 4) (by kernel_rfl) (by omega) R (fun n cs y h _ => trod_known h) h hw
  have e : ps.flatMap (·.2) = (ps.map (·.1)).flatMap kcells := by
    clear hl hm hr h hby hw
    induction ps with
    | nil => rfl
    | cons p r ih =>
      rw [List.flatMap_cons, ih (fun q hq' => hq q (by simp [hq'])), hq p (by simp)]
      rfl
  rw [b64] at hby
  exact ⟨ps.map (·.1), ⟨A, cap, by rw [List.length_map], by rw [List.length_map]; exact hl, by rw [List.length_map]; exact hm, by rw [List.length_map, ← e]; exact hr⟩, by rw [List.length_map]; exact hby⟩
set_option maxRecDepth 100000 in
theorem trod_state {R fuel : Nat} {cs : List Value} {x : DataW H × List MemPlace} (h : DataW.trod enc Try.prog w base spare held fuel 31 cs = some x) (hw : ∀ k ∈ x.1.weights Try.prog 31, k ≤ R) :
    ∃ a : SQ × (Value × Value), cs = mcells a.2 ∧ KRow w.heap.size w a.2.1 a.1.1 ∧ KRow w.heap.size w a.2.2 a.1.2 ∧ a.1.1.length * 40 ≤ R ∧ a.1.2.length * 40 ≤ R := by
  obtain ⟨xs, m, _, rfl, hl, hlx, hf⟩ := DataW.trod_struct Try.underlying31 h
  have hC : Try.prog.cellsOf 31 = 2 := by kernel_rfl
  rw [hC] at hl
  obtain ⟨c0, c1, rfl⟩ : ∃ c0 c1, cs = [c0, c1] := by
    match cs, hl with
    | [c0, c1], _ => exact ⟨c0, c1, rfl⟩
  have hlx' : xs.length = 2 := hlx
  have h0 := hf 0 _ rfl
  have e0 : xs[0]? = some xs[0] := List.getElem?_eq_getElem (by omega)
  rw [e0] at h0
  have h1 := hf 1 _ rfl
  have e1 : xs[1]? = some xs[1] := List.getElem?_eq_getElem (by omega)
  rw [e1] at h1
  simp only [DataW.weights, Try.underlying31] at hw
  have w0 : ∀ k ∈ (xs[0].1).weights Try.prog 29, k ≤ R := fun k hk => hw k (DataW.weights_mem_each (j := 0) (t := 29) rfl (by rw [List.getElem?_map, e0]; rfl) k hk)
  have w1 : ∀ k ∈ (xs[1].1).weights Try.prog 29, k ≤ R := fun k hk => hw k (DataW.weights_mem_each (j := 1) (t := 29) rfl (by rw [List.getElem?_map, e1]; rfl) k hk)
  obtain ⟨l0, r0, b0⟩ := open_knowns (v := c0) (by simpa [k29] using h0) w0
  obtain ⟨l1, r1, b1⟩ := open_knowns (v := c1) (by simpa [k29] using h1) w1
  exact ⟨((l0, l1), (c0, c1)), rfl, r0, r1, b0, b1⟩
theorem open_states {R fuel : Nat} {v : Value} {x : DataW H × List MemPlace} (h : DataW.trod enc Try.prog w base spare held fuel 22 [v] = some x) (hw : ∀ k ∈ x.1.weights Try.prog 22, k ≤ R) :
    ∃ l : List SQ, SRow w.heap.size w v l ∧ l.length * 48 ≤ R ∧ ∀ s ∈ l, s.1.length * 40 ≤ R ∧ s.2.length * 40 ≤ R := by
  obtain ⟨A, cap, ps, rfl, hby, hl, hm, hq, hr⟩ := open_rowsW (fun (a : SQ × (Value × Value)) cs => cs = mcells a.2 ∧ KRow w.heap.size w a.2.1 a.1.1 ∧ KRow w.heap.size w a.2.2 a.1.2 ∧ a.1.1.length * 40 ≤ R ∧ a.1.2.length * 40 ≤ R) Try.underlying22 (size := 2) (by kernel_rfl) (by omega) R (fun n cs y h hw => trod_state h hw) h hw
  have e : ps.flatMap (·.2) = (ps.map (·.1.2)).flatMap mcells := by
    clear hl hm hr h hby hw
    induction ps with
    | nil => rfl
    | cons p r ih =>
      rw [List.flatMap_cons, ih (fun q hq' => hq q (by simp [hq'])), (hq p (by simp)).1]
      rfl
  rw [b31] at hby
  refine ⟨ps.map (·.1.1), ⟨ps.map (·.1.2), ⟨by simp, fun i l x hi hx => ?_⟩, A, cap, by rw [List.length_map], by rw [List.length_map]; exact hl, by rw [List.length_map]; exact hm, by rw [List.length_map, ← e]; exact hr⟩, by rw [List.length_map]; exact hby, fun s hs => ?_⟩
  · rw [List.getElem?_map] at hi hx
    cases hp : ps[i]? with
    | none => rw [hp] at hi; cases hi
    | some p =>
      rw [hp] at hi hx
      cases hi; cases hx
      have := hq p (List.mem_of_getElem? hp)
      exact ⟨this.2.1, this.2.2.1⟩
  · obtain ⟨p, hp, rfl⟩ := List.mem_map.1 hs
    exact (hq p hp).2.2.2
theorem open_len {t e : TypeId} {fuel : Nat} {A : Option Addr} {n cap : Nat} {x : DataW H × List MemPlace} (ht : Try.prog.underlying t = some (.slice e)) (h : DataW.trod enc Try.prog w base spare held fuel t [.slice A n cap] = some x) : n ≤ 9223372036854775807 := by
  rcases open_slice ht h with ⟨h0, _⟩ | ⟨a, len, cap', m, n', D, Pl, hcs, hb, hl, hm, hmm, hx, hi⟩
  · injection h0 with h0 _
    injection h0 with _ h1 _
    omega
  · injection hcs with h0 _
    injection h0 with _ h1 _
    unfold maxLen at hm
    omega
end
end Go.Proofs.Ytgepgbpjdjbelaa
