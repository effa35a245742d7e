/-
  PLAIN: what is decoded stands in order; what the laws say of the graph.
-/
import Derived.Test.YtbeelcklbdnjnaaFq
namespace Go.Proofs.Ytbeelcklbdnjnaa

theorem oneP_few (pc : Nat) (r : List UInt8) : (oneP pc r).x.to.length ≤ r.length + 1 := by
  unfold oneP
  simp only
  repeat' split
  all_goals simp [tosP, default, instInhabitedIn]
  all_goals try omega
theorem ins_few : ∀ (m pc : Nat) (r : List UInt8), r.length ≤ m → ∀ x ∈ (insP pc r).2, x.to.length ≤ r.length + 1
  | 0, pc, r, h, x, hx => by
    obtain rfl : r = [] := List.eq_nil_of_length_eq_zero (by omega)
    rw [insP_nil] at hx
    simp at hx
  | m + 1, pc, r, h, x, hx => by
    by_cases hr : r = []
    · subst hr
      rw [insP_nil] at hx
      simp at hx
    · by_cases he : (oneP pc r).e = 0
      · rw [insP_ok hr he] at hx
        have hn := oneP_n he
        rcases List.mem_cons.1 hx with rfl | hx
        · exact oneP_few pc r
        · have := ins_few m _ _ (by rw [List.length_drop]; omega) x hx
          rw [List.length_drop] at this
          omega
      · rw [insP_err hr he] at hx
        simp at hx
theorem ord_of {s : List UInt8} (h : decE s = 0) : Ord s.length (decL s) ∧ (decL s).length ≤ 4096 ∧ s.length ≤ 4096 := by
  obtain ⟨h1, h2, h3, h4, h5⟩ := decE_ok h
  have hrun : Run 0 s (decL s) := by rw [h5]; exact run_of s.length 0 s (Nat.le_refl _) h3
  have hl : ∀ (l : List In) (pc : Nat) (r : List UInt8), Run pc r l → l.length ≤ r.length := by
    intro l
    induction l with
    | nil => intro pc r _; simp
    | cons y l ih =>
      intro pc r hr
      obtain ⟨_, a, b, _, c⟩ := hr
      have := ih _ _ c
      rw [List.length_drop] at this
      simp
      omega
  have hlen := hl _ _ _ hrun
  obtain ⟨f1, f2⟩ := flow_ok h4
  refine ⟨⟨?_, run_lt _ _ _ hrun, fun x hx => ?_, fun x hx => ?_, ?_, fun x hx => ?_⟩, by omega, h2⟩
  · rw [h5]; exact insP_ne h1 h3
  · have := (run_pos _ _ _ hrun x hx).1; omega
  · obtain ⟨i, hi⟩ := List.mem_iff_getElem?.1 hx
    obtain ⟨q, e, hq, _⟩ := run_at _ _ _ hrun i x hi
    omega
  · rw [h5]; exact jumps_mem.1 f1
  · rw [h5] at hx
    have := ins_few s.length 0 s (Nat.le_refl _) x hx
    omega
theorem first_pc {s : List UInt8} (h : decE s = 0) : ∃ x, (decL s)[0]? = some x ∧ x.pc = 0 := by
  obtain ⟨h1, h2, h3, h4, h5⟩ := decE_ok h
  have hrun : Run 0 s (decL s) := by rw [h5]; exact run_of s.length 0 s (Nat.le_refl _) h3
  rcases hl : decL s with _ | ⟨x, l⟩
  · have := (ord_of h).1.ne
    rw [hl] at this
    exact absurd rfl this
  · rw [hl] at hrun
    exact ⟨x, rfl, hrun.1⟩
theorem last_ends {s : List UInt8} (h : decE s = 0) : ∃ x, (decL s)[(decL s).length - 1]? = some x ∧ endsP x.op = true := by
  obtain ⟨h1, h2, h3, h4, h5⟩ := decE_ok h
  obtain ⟨f1, f2⟩ := flow_ok h4
  rw [← h5] at f2
  have hne := (ord_of h).1.ne
  unfold lastP at f2
  rcases hg : (decL s).getLast? with _ | x
  · rw [List.getLast?_eq_none_iff] at hg
    exact absurd hg hne
  · rw [hg] at f2
    rw [List.getLast?_eq_getElem?] at hg
    exact ⟨x, hg, f2⟩
end Go.Proofs.Ytbeelcklbdnjnaa
