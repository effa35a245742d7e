/-
  PLAIN: bytes of modified UTF-8 that are cut: between runes both parts are texts' bytes, within a rune neither is.
-/
import Derived.Test.YtkbnhjmpojpfhaaPlain
namespace Go.Proofs.Ytkbnhjmpojpfhaa

theorem unitL_cont (t : List UInt8) (h : 128 ≤ at0 t 0 ∧ at0 t 0 < 192) : unitL t = (0, 0) := by
  unfold unitL unitN
  split
  · rfl
  rw [if_neg (by omega), if_neg (by omega), if_neg (by omega)]
theorem mdec_cont (t : List UInt8) (h : 128 ≤ at0 t 0 ∧ at0 t 0 < 192) : mdec t = (0, 0) := by
  unfold mdec
  rw [unitL_cont t h]
  rfl
theorem unitL_nil : unitL [] = (0, 0) := rfl
theorem at0_bs_drop (l : List Nat) (k : Nat) (t : List UInt8) (i : Nat) (hi : k + i < l.length) (hb : ∀ x ∈ l, x < 256) : at0 ((bs l).drop k ++ t) i = l[k + i] := by
  have e : (bs l).drop k = bs (l.drop k) := by simp [bs]
  rw [e, at0_bs (l.drop k) t i (by simp; omega) (fun x hx => hb x (List.mem_of_mem_drop hx))]
  simp
theorem at0_bs_take (l : List Nat) (k i : Nat) (hi : i < k) (hk : k ≤ l.length) (hb : ∀ x ∈ l, x < 256) : at0 ((bs l).take k) i = l[i] := by
  have e : (bs l).take k = bs (l.take k) ++ [] := by simp [bs]
  rw [e, at0_bs (l.take k) [] i (by simp; omega) (fun x hx => hb x (List.mem_of_mem_take hx))]
  simp
/-- Within sixteen bits: what is left of the cut is short, what is right of it begins with a byte that begins nothing. -/
theorem un_cut (r : Nat) (hr : r < 65536) (k : Nat) (h0 : 0 < k) (h1 : k < (un r).length) (t : List UInt8) :
    unitL ((un r).take k) = (0, 0) ∧ (128 ≤ at0 ((un r).drop k ++ t) 0 ∧ at0 ((un r).drop k ++ t) 0 < 192) := by
  by_cases c1 : 1 ≤ r ∧ r < 128
  · have e : un r = bs [r] := by simp [un, unN, c1]
    rw [e] at h1
    simp [bs] at h1
    omega
  by_cases c2 : r < 2048
  · have e : un r = bs [192 + r / 64, 128 + r % 64] := by simp only [un, unN, if_neg c1, if_pos c2]
    have hb : ∀ x ∈ [192 + r / 64, 128 + r % 64], x < 256 := by simp; omega
    rw [e] at h1 ⊢
    simp [bs_length] at h1
    obtain rfl : k = 1 := by omega
    constructor
    · have hl : ((bs [192 + r / 64, 128 + r % 64]).take 1).length = 1 := by simp [bs]
      unfold unitL unitN
      rw [hl, at0_bs_take _ 1 0 (by omega) (by simp) hb]
      simp only [List.getElem_cons_zero]
      rw [if_neg (by omega), if_neg (by omega), if_pos (by omega), if_neg (by omega)]
    · rw [at0_bs_drop _ 1 t 0 (by simp) hb]
      simp only [List.getElem_cons_succ, List.getElem_cons_zero]
      omega
  · have e : un r = bs [224 + r / 4096, 128 + r / 64 % 64, 128 + r % 64] := by simp only [un, unN, if_neg c1, if_neg c2]
    have hb : ∀ x ∈ [224 + r / 4096, 128 + r / 64 % 64, 128 + r % 64], x < 256 := by simp; omega
    rw [e] at h1 ⊢
    simp [bs_length] at h1
    have hk : k = 1 ∨ k = 2 := by omega
    rcases hk with rfl | rfl
    · constructor
      · have hl : ((bs [224 + r / 4096, 128 + r / 64 % 64, 128 + r % 64]).take 1).length = 1 := by simp [bs]
        unfold unitL unitN
        rw [hl, at0_bs_take _ 1 0 (by omega) (by simp) hb]
        simp only [List.getElem_cons_zero]
        rw [if_neg (by omega), if_neg (by omega), if_neg (by omega), if_pos (by omega), if_neg (by omega)]
      · rw [at0_bs_drop _ 1 t 0 (by simp) hb]
        simp only [List.getElem_cons_succ, List.getElem_cons_zero]
        omega
    · constructor
      · have hl : ((bs [224 + r / 4096, 128 + r / 64 % 64, 128 + r % 64]).take 2).length = 2 := by simp [bs]
        unfold unitL unitN
        rw [hl, at0_bs_take _ 2 0 (by omega) (by simp) hb]
        simp only [List.getElem_cons_zero]
        rw [if_neg (by omega), if_neg (by omega), if_neg (by omega), if_pos (by omega), if_neg (by omega)]
      · rw [at0_bs_drop _ 2 t 0 (by simp) hb]
        simp only [List.getElem_cons_succ, List.getElem_cons_zero]
        omega
theorem mdec_none {t : List UInt8} (h : unitL t = (0, 0)) : mdec t = (0, 0) := by unfold mdec; rw [h]; rfl
/-- A half of a pair, alone or with what does not go with it. -/
theorem mdec_half {u n : Nat} {t : List UInt8} (h : unitL t = (u, n)) (hs : ¬ Scal u) (h2 : 56319 < u ∨ (unitL (t.drop n)).1 < 56320 ∨ 57343 < (unitL (t.drop n)).1) : mdec t = (0, 0) := by
  unfold mdec
  rw [h]
  simp only
  by_cases hn : n = 0
  · rw [if_pos hn]
  · rw [if_neg hn, if_neg hs, if_neg (by omega)]
theorem un_take_all (u : Nat) (hu : u < 65536) : unitL (un u) = (u, (un u).length) := by
  have := unitL_un u [] hu
  rwa [List.append_nil] at this
/-- Within a rune: neither side has a rune at its front. -/
theorem mb_cut (r : Nat) (hr : Scal r) (k : Nat) (h0 : 0 < k) (h1 : k < (mb r).length) (t : List UInt8) : mdec ((mb r).take k) = (0, 0) ∧ mdec ((mb r).drop k ++ t) = (0, 0) := by
  by_cases c : r < 65536
  · have e : mb r = un r := by unfold mb; rw [if_pos c]
    rw [e] at h1 ⊢
    obtain ⟨a, b⟩ := un_cut r c k h0 h1 t
    exact ⟨mdec_none a, mdec_cont _ b⟩
  · have hr2 : r ≤ 1114111 := by unfold Scal at hr; omega
    obtain ⟨u, hu⟩ : ∃ u, 55296 + (r - 65536) / 1024 = u := ⟨_, rfl⟩
    obtain ⟨v, hv⟩ : ∃ v, 56320 + (r - 65536) % 1024 = v := ⟨_, rfl⟩
    have e : mb r = un u ++ un v := by unfold mb; rw [if_neg c, hu, hv]
    have u1 : 55296 ≤ u ∧ u < 56320 := by omega
    have v1 : 56320 ≤ v ∧ v < 57344 := by omega
    have lu : (un u).length = 3 := by unfold un unN; rw [if_neg (by omega), if_neg (by omega)]; rfl
    have lv : (un v).length = 3 := by unfold un unN; rw [if_neg (by omega), if_neg (by omega)]; rfl
    rw [e] at h1 ⊢
    rw [List.length_append, lu, lv] at h1
    by_cases k1 : k < 3
    · obtain ⟨a, b⟩ := un_cut u (by omega) k h0 (by omega) (un v ++ t)
      rw [List.take_append_of_le_length (by omega), List.drop_append_of_le_length (by omega), List.append_assoc]
      exact ⟨mdec_none a, mdec_cont _ b⟩
    by_cases k2 : k = 3
    · subst k2
      have t1 : (un u ++ un v).take 3 = un u := by rw [← lu]; exact List.take_left
      have d1 : (un u ++ un v).drop 3 = un v := by rw [← lu]; exact List.drop_left
      rw [t1, d1]
      constructor
      · refine mdec_half (un_take_all u (by omega)) (by unfold Scal; omega) (.inr (.inl ?_))
        rw [List.drop_length, unitL_nil]
        omega
      · exact mdec_half (unitL_un v t (by omega)) (by unfold Scal; omega) (.inl (by omega))
    · obtain ⟨a, b⟩ := un_cut v (by omega) (k - 3) (by omega) (by omega) t
      have t1 : (un u ++ un v).take k = un u ++ (un v).take (k - 3) := by rw [List.take_append, List.take_of_length_le (by omega), lu]
      have d1 : (un u ++ un v).drop k = (un v).drop (k - 3) := by rw [List.drop_append, List.drop_of_length_le (by omega), lu, List.nil_append]
      rw [t1, d1]
      constructor
      · refine mdec_half (unitL_un u _ (by omega)) (by unfold Scal; omega) (.inr (.inl ?_))
        rw [List.drop_left, a]
        omega
      · exact mdec_cont _ b
theorem mruns_front {t : List UInt8} (hne : t ≠ []) (h : mdec t = (0, 0)) : mruns t = none := by
  rw [mruns_cons t hne, h]
  rfl
theorem cut_cases (rs : List Nat) (hs : ∀ r ∈ rs, Scal r) : ∀ k, k ≤ (rs.flatMap mb).length →
    (∃ p q, rs = p ++ q ∧ (rs.flatMap mb).take k = p.flatMap mb ∧ (rs.flatMap mb).drop k = q.flatMap mb) ∨ (mruns ((rs.flatMap mb).take k) = none ∧ mruns ((rs.flatMap mb).drop k) = none) := by
  induction rs with
  | nil =>
    intro k hk
    exact .inl ⟨[], [], rfl, by simp, by simp⟩
  | cons r rs ih =>
    intro k hk
    have hr := hs r (by simp)
    have ih' := ih (fun x hx => hs x (by simp [hx]))
    rw [List.flatMap_cons] at hk ⊢
    rw [List.length_append] at hk
    by_cases k0 : k = 0
    · subst k0
      exact .inl ⟨[], r :: rs, rfl, by simp, by simp⟩
    by_cases k1 : k < (mb r).length
    · obtain ⟨a, b⟩ := mb_cut r hr k (by omega) k1 (rs.flatMap mb)
      right
      rw [List.take_append_of_le_length (by omega), List.drop_append_of_le_length (by omega)]
      constructor
      · refine mruns_front ?_ a
        intro e
        have h2 := congrArg List.length e
        rw [List.length_take] at h2
        simp only [List.length_nil] at h2
        omega
      · refine mruns_front ?_ b
        intro e
        have := congrArg List.length e
        simp at this
        omega
    · have t1 : (mb r ++ rs.flatMap mb).take k = mb r ++ (rs.flatMap mb).take (k - (mb r).length) := by rw [List.take_append, List.take_of_length_le (by omega)]
      have d1 : (mb r ++ rs.flatMap mb).drop k = (rs.flatMap mb).drop (k - (mb r).length) := by rw [List.drop_append, List.drop_of_length_le (by omega), List.nil_append]
      rw [t1, d1]
      rcases ih' (k - (mb r).length) (by omega) with ⟨p, q, e1, e2, e3⟩ | ⟨a, b⟩
      · exact .inl ⟨r :: p, q, by rw [e1]; rfl, by rw [e2]; rfl, e3⟩
      · exact .inr ⟨by rw [mruns_mb r _ hr, a]; rfl, b⟩
end Go.Proofs.Ytkbnhjmpojpfhaa
