/-
  The used blocks with what is in them; what the calls do to them.
-/
import Derived.Test.YtmgpimibnogcaaaEm
set_option linter.unusedVariables false
set_option linter.unusedSimpArgs false
namespace Go.Proofs.Ytmgpimibnogcaaa
open Go.RowKit

/-- Where the used blocks begin, and their words. -/
def usedB : Nat → List Blk → List (Int × List Int)
  | _, [] => []
  | a, b :: r => (if b.us = true then [((a : Int), b.body)] else []) ++ usedB (a + b.sz) r
theorem usedB_append : ∀ (a : Nat) (A B : List Blk), usedB a (A ++ B) = usedB a A ++ usedB (a + len A) B
  | a, [], B => by rw [List.nil_append, len_nil]; rfl
  | a, x :: A, B => by rw [List.cons_append, usedB, usedB, usedB_append (a + x.sz) A B, List.append_assoc, len_cons, Nat.add_assoc]
theorem usedB_fst : ∀ (a : Nat) (Bs : List Blk), (usedB a Bs).map Prod.fst = usedL a Bs
  | a, [] => rfl
  | a, b :: r => by
    rw [usedB, usedL, List.map_append, usedB_fst (a + b.sz) r]
    by_cases h : b.us = true
    · rw [if_pos h, if_pos h]; rfl
    · rw [if_neg h, if_neg h]; rfl
theorem usedB_one (a : Nat) (c : Blk) : usedB a [c] = if c.us = true then [((a : Int), c.body)] else [] := by
  rw [usedB, usedB, List.append_nil]
theorem usedB_free (a : Nat) {c : Blk} (hu : c.us = false) : usedB a [c] = [] := by
  rw [usedB_one, if_neg (by rw [hu]; decide)]
theorem usedB_mid (a : Nat) (pre : List Blk) (c : Blk) (post : List Blk) : usedB a (pre ++ c :: post) = usedB a pre ++ (usedB (a + len pre) [c] ++ usedB (a + len pre + c.sz) post) := by
  rw [usedB_append, show c :: post = [c] ++ post from rfl, usedB_append, len_cons, len_nil, Nat.add_zero]
theorem mem_usedB : ∀ {a : Nat} {Bs : List Blk} {x : Int × List Int}, x ∈ usedB a Bs → ∃ pre c post, Bs = pre ++ c :: post ∧ c.us = true ∧ x = (((a + len pre : Nat) : Int), c.body)
  | a, [], x, h => by simp [usedB] at h
  | a, b :: r, x, h => by
    rw [usedB, List.mem_append] at h
    rcases h with h | h
    · cases hb : b.us with
      | true =>
        rw [if_pos hb, List.mem_singleton] at h
        exact ⟨[], b, r, rfl, hb, by rw [h, len_nil]; rfl⟩
      | false => rw [if_neg (by rw [hb]; decide)] at h; simp at h
    · obtain ⟨pre, c, post, rfl, hu, hx⟩ := mem_usedB h
      exact ⟨b :: pre, c, post, rfl, hu, by rw [hx, len_cons, Nat.add_assoc]⟩
theorem usedB_ge : ∀ {a : Nat} {Bs : List Blk} {x : Int × List Int}, x ∈ usedB a Bs → (a : Int) ≤ x.1 ∧ x.1 + x.2.length + 1 ≤ (a + len Bs : Nat) := by
  intro a Bs x h
  obtain ⟨pre, c, post, rfl, hu, rfl⟩ := mem_usedB h
  rw [len_append, len_cons]
  have : c.sz = c.body.length + 1 := rfl
  constructor
  · show (a : Int) ≤ ((a + len pre : Nat) : Int)
    omega
  · show ((a + len pre : Nat) : Int) + (c.body.length : Int) + 1 ≤ _
    omega
/-- Two blocks lie apart. -/
def Dis (x y : Int × List Int) : Prop := x.1 + x.2.length + 1 ≤ y.1 ∨ y.1 + y.2.length + 1 ≤ x.1
theorem usedB_dis : ∀ (a : Nat) (Bs : List Blk), (usedB a Bs).Pairwise Dis
  | a, [] => List.Pairwise.nil
  | a, b :: r => by
    rw [usedB]
    by_cases h : b.us = true
    · rw [if_pos h]
      refine List.Pairwise.cons (fun y hy => .inl ?_) (usedB_dis _ r)
      have := (usedB_ge hy).1
      have e : b.sz = b.body.length + 1 := rfl
      show (a : Int) + (b.body.length : Int) + 1 ≤ y.1
      omega
    · rw [if_neg h]
      exact usedB_dis _ r
theorem Dis.symm {x y : Int × List Int} (h : Dis x y) : Dis y x := h.elim .inr .inl
/-- The sum of the sizes. -/
def sumB : List (Int × List Int) → Nat
  | [] => 0
  | x :: r => x.2.length + 1 + sumB r
theorem sumB_append : ∀ A B, sumB (A ++ B) = sumB A + sumB B
  | [], B => by rw [List.nil_append, sumB, Nat.zero_add]
  | x :: A, B => by rw [List.cons_append, sumB, sumB, sumB_append A B]; omega
theorem sumB_perm {A B : List (Int × List Int)} (h : A.Perm B) : sumB A = sumB B := by
  induction h with
  | nil => rfl
  | cons x _ ih => rw [sumB, sumB, ih]
  | swap x y l => rw [sumB, sumB, sumB, sumB]; omega
  | trans _ _ h1 h2 => rw [h1, h2]
theorem sumB_used : ∀ (a : Nat) (Bs : List Blk), sumB (usedB a Bs) = sumOf true Bs
  | a, [] => rfl
  | a, b :: r => by
    rw [usedB, sumB_append, sumB_used, sumOf]
    by_cases h : b.us = true
    · rw [if_pos h, if_pos h]; rfl
    · rw [if_neg h, if_neg h]; rfl
theorem usedB_takeB (a n : Nat) {c : Blk} (hz : n + 1 ≤ c.sz) : ∃ s, usedB a (takeB n c) = [((a : Int), List.replicate s 0)] ∧ n ≤ s ∧ s ≤ n + 1 := by
  unfold takeB
  by_cases h : n + 3 ≤ c.sz
  · rw [if_pos h]
    exact ⟨n, rfl, Nat.le_refl _, by omega⟩
  · rw [if_neg h]
    exact ⟨c.body.length, rfl, by unfold Blk.sz at hz; omega, by unfold Blk.sz at h; omega⟩
theorem usedB_take (pre : List Blk) (c : Blk) (post : List Blk) (n : Nat) (hu : c.us = false) (hz : n + 1 ≤ c.sz) :
    ∃ s, n ≤ s ∧ s ≤ n + 1 ∧ (usedB 1 (pre ++ takeB n c ++ post)).Perm (usedB 1 (pre ++ c :: post) ++ [(((1 + len pre : Nat) : Int), List.replicate s 0)]) := by
  obtain ⟨s, h1, h2, h3⟩ := usedB_takeB (1 + len pre) n hz
  refine ⟨s, h2, h3, ?_⟩
  rw [usedB_mid, usedB_free _ hu, List.nil_append, usedB_append, usedB_append, len_append, takeB_len n c hz, h1, List.append_assoc, List.append_assoc, ← Nat.add_assoc]
  exact (List.Perm.refl _).append (List.perm_append_comm)
theorem usedB_free_mid (pre1 dl er post1 : List Blk) (c : Blk) (hu : c.us = true) (hd : dl = [] ∨ ∃ d, dl = [d] ∧ d.us = false) (he : er = [] ∨ ∃ e, er = [e] ∧ e.us = false) :
    ∃ A C, usedB 1 ((pre1 ++ dl) ++ c :: (er ++ post1)) = A ++ (((1 + len (pre1 ++ dl) : Nat) : Int), c.body) :: C ∧ usedB 1 (pre1 ++ freeBk (len dl + c.sz + len er) :: post1) = A ++ C := by
  have h0 : ∀ (a : Nat) (l : List Blk), (l = [] ∨ ∃ d, l = [d] ∧ d.us = false) → usedB a l = [] := by
    rintro a l (rfl | ⟨d, rfl, h⟩)
    · rfl
    · exact usedB_free a h
  have hc : 1 ≤ c.sz := by unfold Blk.sz; omega
  refine ⟨usedB 1 pre1, usedB (1 + len pre1 + (len dl + c.sz + len er)) post1, ?_, ?_⟩
  · rw [usedB_mid, usedB_append, usedB_append _ er, h0 _ dl hd, h0 _ er he, usedB_one, if_pos hu, List.append_nil, List.nil_append, len_append]
    rw [show 1 + (len pre1 + len dl) + c.sz + len er = 1 + len pre1 + (len dl + c.sz + len er) by omega]
    rfl
  · rw [usedB_mid, usedB_free _ (show (freeBk (len dl + c.sz + len er)).us = false from rfl), List.nil_append, freeBk_sz (by omega)]
/-- Blocks that lie apart begin apart. -/
theorem dis_first {L : List (Int × List Int)} {la lb : List (Int × List Int)} {y : Int × List Int} (h : L.Pairwise Dis) (hp : L.Perm (la ++ y :: lb)) : ∀ z ∈ la ++ lb, Dis y z := by
  have h1 : (la ++ y :: lb).Pairwise Dis := (hp.pairwise_iff (fun h => h.symm)).1 h
  intro z hz
  rw [List.pairwise_append] at h1
  obtain ⟨_, h2, h3⟩ := h1
  rw [List.mem_append] at hz
  rcases hz with hz | hz
  · exact (h3 z hz y (by simp)).symm
  · exact (List.pairwise_cons.1 h2).1 z hz
theorem at_usedB {Bs : List Blk} {a : Nat} {c : Blk} (h : At Bs a c) (hu : c.us = true) : ((a : Int), c.body) ∈ usedB 1 Bs := by
  obtain ⟨pre, post, rfl, rfl⟩ := h
  rw [usedB_mid, usedB_one, if_pos hu]
  simp
section
variable {q p b : Nat} {Bs : List Blk} {L la lb : List (Int × List Int)} {w : World}
theorem keeps_alloc (hp : (usedB 1 Bs).Perm L) (h : Arena q p b Bs w) (n : Nat) (h1 : 1 ≤ n) (h2 : n ≤ 1048576) :
    Calls Try.prog 17 #[.pointer (some ⟨q, 0, none⟩), .int .i64 (n : Int)] w fun e w' => ∃ x f : Int, e = .returned (.tuple #[.int .i64 x, .int .i64 f]) ∧ ((f = 23 ∧ (∀ c ∈ Bs, c.us = false → c.sz < n + 1) ∧ Arena q p b Bs w') ∨ (f = 0 ∧ (∃ c ∈ Bs, c.us = false ∧ n + 1 ≤ c.sz) ∧ ∃ Bs' s, n ≤ s ∧ s ≤ n + 1 ∧ len Bs' = len Bs ∧ (usedB 1 Bs').Perm (L ++ [(x, List.replicate s 0)]) ∧ Arena q p b Bs' w')) ∧ Upd [q, p, b] w w' := by
  refine (arena_alloc q p b Bs w h n).mono ?_
  rintro e w' (⟨h3, _, _⟩ | ⟨_, hn, rfl, k, rfl⟩ | ⟨_, pre, c, post, rfl, hf, hz, _, rfl, ha, hu⟩)
  · omega
  · exact ⟨_, _, rfl, .inl ⟨rfl, hn, h.drewN k⟩, (Upd.refl _ _).drewN k⟩
  · obtain ⟨s, g1, g2, g3⟩ := usedB_take pre c post _ hf hz
    refine ⟨_, _, rfl, .inr ⟨rfl, ⟨c, by simp, hf, hz⟩, _, s, g1, g2, ?_, g3.trans (hp.append_right _), ha⟩, hu⟩
    rw [len_append, len_append, len_append, len_cons, takeB_len _ _ hz]
    omega
theorem keeps_size {x : Int × List Int} (hx : x ∈ usedB 1 Bs) (h : Arena q p b Bs w) :
    Calls Try.prog 18 #[.pointer (some ⟨q, 0, none⟩), .int .i64 x.1] w fun e w' => e = .returned (.tuple #[.int .i64 (x.2.length : Int), .bool true]) ∧ ∃ k, w' = w.drewN k := by
  obtain ⟨pre, c, post, rfl, hu, rfl⟩ := mem_usedB hx
  exact arena_size h hu
theorem keeps_read {x : Int × List Int} (hx : x ∈ usedB 1 Bs) (h : Arena q p b Bs w) (j : Nat) (v : Int) (hv : x.2[j]? = some v) :
    Calls Try.prog 26 #[.pointer (some ⟨q, 0, none⟩), .int .i64 x.1, .int .i64 (j : Int)] w fun e w' => e = .returned (.tuple #[.int .i64 v, .int .i64 0]) ∧ ∃ k, w' = w.drewN k := by
  obtain ⟨pre, c, post, rfl, hu, rfl⟩ := mem_usedB hx
  exact arena_read h hu j v hv
theorem keeps_free {y : Int × List Int} (hp : (usedB 1 Bs).Perm (la ++ y :: lb)) (h : Arena q p b Bs w) :
    Calls Try.prog 19 #[.pointer (some ⟨q, 0, none⟩), .int .i64 y.1] w fun e w' => e = .returned (.int .i64 0) ∧ (∃ Bs', len Bs' = len Bs ∧ (usedB 1 Bs').Perm (la ++ lb) ∧ Arena q p b Bs' w' ∧ NoUsed Bs' y.1) ∧ Upd [q, p, b] w w' := by
  have hd := dis_first (usedB_dis 1 Bs) hp
  obtain ⟨pre, c, post, rfl, hu, rfl⟩ := mem_usedB (hp.mem_iff.2 (by simp) : y ∈ usedB 1 Bs)
  refine (arena_free q p b pre post c w h hu).mono ?_
  rintro e w' ⟨rfl, pre1, dl, er, post1, rfl, rfl, h3, h4, ha, hU⟩
  have hc : 1 ≤ c.sz := by unfold Blk.sz; omega
  obtain ⟨A, C, e1, e2⟩ := usedB_free_mid pre1 dl er post1 c hu (h3.imp (fun h => h.1) id) (h4.imp (fun h => h.1) id)
  have hpp : (usedB 1 (pre1 ++ freeBk (len dl + c.sz + len er) :: post1)).Perm (la ++ lb) := by
    rw [e1] at hp
    rw [e2]
    exact ((List.perm_middle.symm.trans hp).trans List.perm_middle).cons_inv
  refine ⟨rfl, ⟨_, ?_, hpp, ha, ?_⟩, hU⟩
  · rw [len_append, len_cons, len_append, len_append, len_cons, len_append, freeBk_sz (by omega)]
    omega
  · intro d hd0 hat
    cases hu' : d.us with
    | false => rfl
    | true =>
      exfalso
      rw [Int.toNat_natCast] at hat
      have := hd _ (hpp.mem_iff.1 (at_usedB hat hu'))
      unfold Dis at this
      simp only at this
      omega
theorem keeps_write {x : Int} {body : List Int} (hp : (usedB 1 Bs).Perm (la ++ (x, body) :: lb)) (h : Arena q p b Bs w) (j : Nat) (v : Int) (hj : j < body.length) :
    Calls Try.prog 20 #[.pointer (some ⟨q, 0, none⟩), .int .i64 x, .int .i64 (j : Int), .int .i64 v] w fun e w' => e = .returned (.int .i64 0) ∧ (∃ Bs', len Bs' = len Bs ∧ (usedB 1 Bs').Perm (la ++ (x, body.set j v) :: lb) ∧ Arena q p b Bs' w') ∧ Upd [q, p, b] w w' := by
  obtain ⟨pre, c, post, rfl, hu, hx⟩ := mem_usedB (hp.mem_iff.2 (by simp) : (x, body) ∈ usedB 1 Bs)
  injection hx with hx1 hx2
  subst hx1
  subst hx2
  refine (arena_write h hu j v hj).mono ?_
  rintro e w' ⟨rfl, ha, hU⟩
  refine ⟨rfl, ⟨_, ?_, ?_, ha⟩, hU.mono (by simp)⟩
  · rw [len_append, len_append, len_cons, len_cons, putW_sz]
  · rw [usedB_mid, usedB_one, if_pos hu] at hp
    rw [usedB_mid, usedB_one, putW_sz, if_pos (show (putW c j v).us = true from hu)]
    have h1 := ((List.perm_middle.symm.trans hp).trans List.perm_middle).cons_inv
    exact (List.perm_middle.trans (h1.cons _)).trans List.perm_middle.symm
end
end Go.Proofs.Ytmgpimibnogcaaa
