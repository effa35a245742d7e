/-
  PLAIN: a constant more behind all others of a file that is right leaves it right, but that there may be too many.
-/
import Derived.Test.YtcgloepfnnfioaaA6
set_option linter.unusedVariables false
set_option linter.unusedSimpArgs false
namespace Go.Proofs.Ytcgloepfnnfioaa
open Go.RowKit

theorem tagged_had {p : List Cn} {i t : Int} (h : tagged p i t = true) : 1 ≤ i ∧ ∃ c, p[(i - 1).toNat]? = some c ∧ c.tag = t := by
  unfold tagged at h
  rw [Bool.and_eq_true, decide_eq_true_eq] at h
  refine ⟨h.1, ?_⟩
  have h2 := h.2
  split at h2
  · rename_i c hc; exact ⟨c, hc, of_decide_eq_true h2⟩
  · cases h2
theorem grow_at {p : List Cn} {k : Nat} {c : Cn} (q : List Cn) (h : p[k]? = some c) : (p ++ q)[k]? = some c := by
  obtain ⟨hk, _⟩ := List.getElem?_eq_some_iff.1 h
  rw [List.getElem?_append_left hk]; exact h
theorem tagged_grow {p : List Cn} {i t : Int} (q : List Cn) (h : tagged p i t = true) : tagged (p ++ q) i t = true := by
  obtain ⟨h1, c, hc, ht⟩ := tagged_had h
  unfold tagged
  rw [grow_at q hc, decide_eq_true h1]
  simp [ht]
theorem textP_grow {p : List Cn} {i t : Int} (q : List Cn) (h : tagged p i t = true) : textP (p ++ q) i = textP p i := by
  obtain ⟨h1, c, hc, ht⟩ := tagged_had h
  unfold textP
  rw [grow_at q hc, hc]
theorem noneB_grow {p : List Cn} {i : Int} (q : List Cn) (h : noneB p i = true) : noneB (p ++ q) i = true := by
  unfold noneB at h ⊢
  rw [Bool.or_eq_true] at h ⊢
  exact h.imp id (tagged_grow q)
theorem linkB_grow {p : List Cn} {i t : Int} (q : List Cn) (h : linkB p i t = true) : linkB (p ++ q) i t = true := by
  unfold linkB at h ⊢
  split
  · rename_i h0; rw [if_pos h0] at h; exact h
  · rename_i h0; rw [if_neg h0] at h; exact tagged_grow q h
theorem linkB_tag {p : List Cn} {i t : Int} (h : linkB p i t = true) (ht : t ≠ 0) : tagged p i t = true := by
  unfold linkB at h
  rwa [if_neg ht] at h
theorem pairE_grow {p : List Cn} {i j s t : Int} (q : List Cn) (E : ByteArray → Int) (hi : tagged p i s = true) (hj : tagged p j t = true) : pairE (p ++ q) i j E = pairE p i j E := by
  unfold pairE
  rw [textP_grow q hi, textP_grow q hj]
theorem linksB_all {p : List Cn} {c : Cn} (h : linksB p c = true) : linkB p c.a (tag1 c.tag) = true ∧ linkB p c.b (tag2 c.tag) = true ∧ linkB p c.c (tag2 c.tag) = true := by
  unfold linksB at h
  rw [Bool.and_eq_true, Bool.and_eq_true] at h
  exact h
theorem constE_grow {p : List Cn} {c : Cn} (q : List Cn) (h : constE p c = 0) : constE (p ++ q) c = 0 := by
  unfold constE at h ⊢
  split
  · rename_i h1
    rw [if_pos h1] at h
    split at h
    · rename_i h2
      obtain ⟨ha, hb, hc⟩ := linksB_all h2
      have h3 : linksB (p ++ q) c = true := by
        unfold linksB
        rw [linkB_grow q ha, linkB_grow q hb, linkB_grow q hc]; rfl
      rw [if_pos h3]
      unfold textE at h ⊢
      by_cases t1 : c.tag = 1
      · rw [if_pos t1] at h ⊢; exact h
      rw [if_neg t1] at h ⊢
      by_cases t4 : c.tag = 4
      · rw [if_pos t4] at h ⊢
        rw [textP_grow q (linkB_tag ha (by rw [t4]; decide))]; exact h
      rw [if_neg t4] at h ⊢
      by_cases t7 : c.tag = 7
      · rw [if_pos t7] at h ⊢
        rw [textP_grow q (linkB_tag ha (by rw [t7]; decide))]; exact h
      rw [if_neg t7] at h ⊢
      by_cases t5 : c.tag = 5
      · rw [if_pos t5] at h ⊢
        rw [pairE_grow q _ (linkB_tag hb (by rw [t5]; decide)) (linkB_tag hc (by rw [t5]; decide))]; exact h
      rw [if_neg t5] at h ⊢
      by_cases t6 : c.tag = 6
      · rw [if_pos t6] at h ⊢
        rw [pairE_grow q _ (linkB_tag hb (by rw [t6]; decide)) (linkB_tag hc (by rw [t6]; decide))]; exact h
      rw [if_neg t6]
    · cases h
  · rename_i h1
    rw [if_neg h1] at h
    exact h
theorem firstErr_iff {α : Type} {g : α → Int} {l : List α} : firstErr g l = 0 ↔ ∀ x ∈ l, g x = 0 := by
  induction l with
  | nil => simp [firstErr]
  | cons x r ih =>
    simp only [firstErr, List.mem_cons, forall_eq_or_imp]
    split
    · rename_i h; rw [ih]; exact ⟨fun g => ⟨h, g⟩, fun g => g.2⟩
    · rename_i h; exact ⟨fun g => absurd g h, fun g => absurd g.1 h⟩
/-- A constant of an integer. -/
def intC (n : Int) : Cn := ⟨2, ⟨#[]⟩, n, 0, 0, 0⟩
theorem intC_fine (p : List Cn) (n : Int) : constE p (intC n) = 0 := by
  have h0 : (⟨#[]⟩ : ByteArray).size = 0 := rfl
  unfold constE rightTagB linksB textE linkB intC tag1 tag2
  simp [h0]
theorem ite0 {c : Prop} [Decidable c] {a b : Int} (h : (if c then a else b) = 0) (hb : b ≠ 0) : c ∧ a = 0 := by
  by_cases g : c
  · rw [if_pos g] at h; exact ⟨g, h⟩
  · rw [if_neg g] at h; exact absurd h hb
theorem ite1 {c : Prop} [Decidable c] {a b : Int} (h : (if c then a else b) = 0) (ha : a ≠ 0) : ¬ c ∧ b = 0 := by
  by_cases g : c
  · rw [if_pos g] at h; exact absurd h ha
  · rw [if_neg g] at h; exact ⟨g, h⟩
theorem poolE_grow {p : List Cn} (n : Int) (h : poolE p = 0) : poolE (p ++ [intC n]) = if p.length = 2000 then 3 else 0 := by
  unfold poolE at h ⊢
  split at h
  · cases h
  rename_i h0
  simp only [List.length_append, List.length_singleton]
  by_cases h2 : p.length = 2000
  · rw [if_pos (by omega), if_pos h2]
  · rw [if_neg (by omega), if_neg h2, firstErr_iff]
    intro x hx
    rw [List.mem_append, List.mem_singleton] at hx
    rcases hx with hx | rfl
    · exact constE_grow _ (firstErr_iff.1 h x hx)
    · exact intC_fine _ n
theorem hdE_grow {p : List Cn} {ffl last : Int} {E : ByteArray → Int} {m : Mb} (q : List Cn) (h : hdE p ffl last E m = 0) : hdE (p ++ q) ffl last E m = 0 ∧ tagged p m.nm 1 = true ∧ tagged p m.ds 1 = true := by
  unfold hdE at h ⊢
  split at h
  · cases h
  rename_i h0
  split at h
  · rename_i h1
    rw [if_neg h0, if_pos ⟨tagged_grow q h1.1, tagged_grow q h1.2⟩, pairE_grow q _ h1.1 h1.2]
    exact ⟨h, h1⟩
  · cases h
theorem specE_grow {p : List Cn} {m : Mb} (q : List Cn) (h1 : tagged p m.nm 1 = true) (h2 : tagged p m.ds 1 = true) : specE (p ++ q) m = specE p m := by
  unfold specE
  rw [textP_grow q h1, textP_grow q h2]
theorem hdlE_grow {p : List Cn} {n : Nat} {x : Hd} (q : List Cn) (h : hdlE p n x = 0) : hdlE (p ++ q) n x = 0 := by
  unfold hdlE at h ⊢
  split at h
  · cases h
  rename_i h0
  rw [if_neg h0]
  split at h
  · rename_i h1; rw [if_pos (noneB_grow q h1)]
  · cases h
theorem bodyE_grow {p : List Cn} {m : Mb} (q : List Cn) (h : bodyE p m = 0) : bodyE (p ++ q) m = 0 := by
  unfold bodyE at h ⊢
  split
  · rename_i g; rw [if_pos g] at h; exact h
  rename_i g; rw [if_neg g] at h
  split
  · rename_i g; rw [if_pos g] at h; exact h
  rename_i g; rw [if_neg g] at h
  split
  · rename_i g; rw [if_pos g] at h; exact h
  rename_i g; rw [if_neg g] at h
  split
  · rename_i g; rw [if_pos g] at h; exact h
  rename_i g; rw [if_neg g] at h
  split
  · rename_i g; rw [if_pos g] at h; exact h
  rename_i g; rw [if_neg g] at h
  exact firstErr_iff.2 fun x hx => hdlE_grow q (firstErr_iff.1 h x hx)
theorem classE_grow {f : Fl} (q : List Cn) (h : classE f = 0) : classE { f with pool := f.pool ++ q } = 0 := by
  unfold classE at h ⊢
  obtain ⟨h0, h⟩ := ite0 h (by decide)
  obtain ⟨h1, h⟩ := ite0 h (by decide)
  obtain ⟨h2, h⟩ := ite0 h (by decide)
  obtain ⟨h3, h⟩ := ite1 h (by decide)
  obtain ⟨h4, h⟩ := ite0 h (by decide)
  rw [if_pos h0, if_pos (tagged_grow q h1), if_pos (noneB_grow q h2), if_neg h3, if_pos]
  rw [List.all_eq_true] at h4 ⊢
  exact fun i hi => tagged_grow q (h4 i hi)
/-- Errors of members that are no errors stay so with other parts that are none either, and the same twice. -/
theorem memsE_grow {P P' : List (Mb → Int)} {S S' : Mb → Mb → Bool} {ms : List Mb} (h : memsE P S ms = 0)
    (hP : ∀ m ∈ ms, firstErr (fun g => g m) P = 0 → firstErr (fun g => g m) P' = 0)
    (hS : ∀ a ∈ ms, ∀ b ∈ ms, firstErr (fun g => g a) P = 0 → firstErr (fun g => g b) P = 0 → S' a b = S a b) : memsE P' S' ms = 0 := by
  unfold memsE at h ⊢
  split at h
  · cases h
  rename_i h0
  rw [if_neg h0]
  rw [firstErr_iff] at h ⊢
  have key : ∀ (k : Nat) (m : Mb), ms[k]? = some m → firstErr (fun g => g m) P = 0 ∧ (ms.take k).any (fun d => S d m) = false := by
    intro k m hk
    obtain ⟨hlt, _⟩ := List.getElem?_eq_some_iff.1 hk
    have hx := h k (List.mem_range.2 hlt)
    unfold memE at hx
    rw [hk] at hx
    simp only at hx
    split at hx
    · rename_i g
      split at hx
      · cases hx
      · rename_i g2; exact ⟨g, by simpa using g2⟩
    · rename_i g; exact absurd hx g
  have fine : ∀ m ∈ ms, firstErr (fun g => g m) P = 0 := by
    intro m hm
    obtain ⟨k, hk⟩ := List.getElem?_of_mem hm
    exact (key k m hk).1
  intro k hk
  unfold memE
  split
  · rename_i m hm
    obtain ⟨k1, k2⟩ := key k m hm
    have hmm := List.mem_of_getElem? hm
    rw [if_pos (hP m hmm k1), if_neg]
    rw [List.any_eq_false] at k2
    rw [List.any_eq_true]
    rintro ⟨d, hd, hd2⟩
    have hdm := List.mem_of_mem_take hd
    rw [hS d hdm m hmm (fine d hdm) k1] at hd2
    exact k2 d hd hd2
  · rfl
theorem fieldsE_grow {f : Fl} (q : List Cn) (h : fieldsE f = 0) : fieldsE { f with pool := f.pool ++ q } = 0 := by
  unfold fieldsE at h ⊢
  refine memsE_grow h ?_ ?_
  · intro m hm h1
    simp only [firstErr] at h1 ⊢
    split at h1
    · rename_i g; rw [if_pos (hdE_grow q g).1]; exact h1
    · rename_i g; exact absurd h1 g
  · intro a ha b hb h1 h2
    simp only [firstErr] at h1 h2
    split at h1
    · rename_i g
      split at h2
      · rename_i g'
        unfold sameN
        rw [textP_grow q (hdE_grow q g).2.1, textP_grow q (hdE_grow q g').2.1]
      · rename_i g'; exact absurd h2 g'
    · rename_i g; exact absurd h1 g
theorem methodsE_grow {f : Fl} (q : List Cn) (h : methodsE f = 0) : methodsE { f with pool := f.pool ++ q } = 0 := by
  unfold methodsE at h ⊢
  have hd : ∀ m, firstErr (fun g => g m) [hdE f.pool f.fl 2 sigE, specE f.pool, bodyE f.pool] = 0 → hdE f.pool f.fl 2 sigE m = 0 ∧ specE f.pool m = 0 ∧ bodyE f.pool m = 0 := by
    intro m h
    have := firstErr_iff.1 h
    exact ⟨this _ (by simp), this _ (by simp), this _ (by simp)⟩
  refine memsE_grow h ?_ ?_
  · intro m hm h1
    obtain ⟨a, b, c⟩ := hd m h1
    refine firstErr_iff.2 ?_
    intro g hg
    simp only [List.mem_cons, List.not_mem_nil, or_false] at hg
    rcases hg with rfl | rfl | rfl
    · exact (hdE_grow q a).1
    · show specE (f.pool ++ q) m = 0
      rw [specE_grow q (hdE_grow q a).2.1 (hdE_grow q a).2.2]; exact b
    · exact bodyE_grow q c
  · intro a ha b hb h1 h2
    have g1 := hdE_grow q (hd a h1).1
    have g2 := hdE_grow q (hd b h2).1
    unfold sameM sameN sameD
    rw [textP_grow q g1.2.1, textP_grow q g1.2.2, textP_grow q g2.2.1, textP_grow q g2.2.2]
theorem ite2 {a b : Int} (h : (if a = 0 then b else a) = 0) : a = 0 ∧ b = 0 := by
  by_cases g : a = 0
  · rw [if_pos g] at h; exact ⟨g, h⟩
  · rw [if_neg g] at h; exact absurd h g
theorem partsE_grow {f : Fl} (n : Int) (h : partsE f = 0) : partsE { f with pool := f.pool ++ [intC n] } = if f.pool.length = 2000 then 3 else 0 := by
  unfold partsE at h ⊢
  obtain ⟨h1, h⟩ := ite2 h
  obtain ⟨h2, h⟩ := ite2 h
  obtain ⟨h3, h⟩ := ite2 h
  show (if poolE (f.pool ++ [intC n]) = 0 then _ else poolE (f.pool ++ [intC n])) = _
  rw [poolE_grow n h1]
  by_cases h4 : f.pool.length = 2000
  · rw [if_pos h4]; rfl
  · rw [if_neg h4, if_pos rfl, classE_grow _ h2, if_pos rfl, fieldsE_grow _ h3, if_pos rfl, methodsE_grow _ h]
theorem intC_len (n : Int) : (constN (intC n)).length = 9 := by
  have h : constN (intC n) = beN 1 2 ++ beN 8 n := rfl
  rw [h, List.length_append, beN_length, beN_length]
theorem fileN_grow (f : Fl) (n : Int) : (fileN { f with pool := f.pool ++ [intC n] }).length = (fileN f).length + 9 := by
  have e (g : Fl) : (fileN g).length = 4 + (2 + (g.pool.flatMap constN).length + (beN 1 g.fl ++ (linksN [g.this, g.super] ++ (listN 1 (fun i => linksN [i]) g.ifs ++ (listN 1 headN g.fds ++ listN 1 methN g.mts)))).length) := by
    unfold fileN
    rw [List.length_append, List.length_append]
    unfold listN
    rw [List.length_append, beN_length]
    rfl
  rw [e, e f]
  show 4 + (2 + ((f.pool ++ [intC n]).flatMap constN).length + _) = _
  rw [List.flatMap_append, List.length_append, List.flatMap_cons, List.flatMap_nil, List.append_nil, intC_len]
  dsimp only
  omega
theorem tagged_int {p : List Cn} {n i : Int} : tagged (p ++ [intC n]) i 1 = tagged p i 1 := by
  unfold tagged
  by_cases h : (i - 1).toNat < p.length
  · rw [List.getElem?_append_left h]
  · rw [List.getElem?_append_right (by omega), List.getElem?_eq_none (Nat.le_of_not_lt h)]
    congr 1
    by_cases h2 : (i - 1).toNat - p.length = 0
    · rw [h2]; rfl
    · rw [List.getElem?_eq_none (by simp; omega)]
theorem textP_int {p : List Cn} {n i : Int} : textP (p ++ [intC n]) i = textP p i := by
  unfold textP
  by_cases h : (i - 1).toNat < p.length
  · rw [List.getElem?_append_left h]
  · rw [List.getElem?_append_right (by omega), List.getElem?_eq_none (Nat.le_of_not_lt h)]
    by_cases h2 : (i - 1).toNat - p.length = 0
    · rw [h2]
      show (if 1 ≤ i ∧ (2 : Int) = 1 then _ else _) = _
      rw [if_neg (by omega)]
    · rw [List.getElem?_eq_none (by simp; omega)]
/-- What the law asks of a right file and of the same with a constant more. -/
theorem grown (f : Fl) (n : Int) (h : encF f = 0) :
    encF { f with pool := f.pool ++ [intC n] } = (if f.pool.length = 2000 then 3 else if 65536 < (fileN f).length + 9 then 2 else 0) ∧ encT f = mkB (fileN f) ∧ (fileN f).length ≤ 65536
    ∧ (f.pool.length ≠ 2000 → (fileN f).length + 9 ≤ 65536 → encT { f with pool := f.pool ++ [intC n] } = mkB (fileN { f with pool := f.pool ++ [intC n] })) := by
  unfold encF at h
  obtain ⟨h1, h2⟩ := ite2 (a := partsE f) h
  obtain ⟨h3, _⟩ := ite0 h2 (by decide)
  refine ⟨?_, ?_, h3, ?_⟩
  · unfold encF
    rw [partsE_grow n h1, fileN_grow]
    by_cases h4 : f.pool.length = 2000
    · rw [if_pos h4, if_neg (by decide), if_pos h4]
    · rw [if_neg h4, if_pos rfl, if_neg h4]
      by_cases h5 : (fileN f).length + 9 ≤ 65536
      · rw [if_pos h5, if_neg (by omega)]
      · rw [if_neg h5, if_pos (by omega)]
  · unfold encT
    rw [if_pos ⟨h1, h3⟩]
  · intro h4 h5
    unfold encT
    rw [if_pos ⟨by rw [partsE_grow n h1, if_neg h4], by rw [fileN_grow]; exact h5⟩]
end Go.Proofs.Ytcgloepfnnfioaa
