/-
  PLAIN: the lists of free blocks as search trees; the words of blocks. No walk in it.
-/
import Derived.Test.YtmgpimibnogcaaaRows
import Derived.WalkKit
import Derived.Lib.BitFns
set_option linter.unusedVariables false
set_option linter.unusedSimpArgs false
namespace Go.Proofs.Ytmgpimibnogcaaa
open Go.RowKit

/-- A search tree of addresses. -/
inductive Tr where
  | nil : Tr
  | node (l : Tr) (a : Nat) (r : Tr) : Tr
namespace Tr
def top : Tr → Nat
  | nil => 0
  | node _ a _ => a
def flat : Tr → List Nat
  | nil => []
  | node l a r => l.flat ++ a :: r.flat
def size : Tr → Nat
  | nil => 0
  | node l _ r => l.size + r.size + 1
end Tr
/-- What is kept of a block beside its words. -/
structure Bk where
  ah : Nat
  lf : Nat
  rt : Nat
instance : Inhabited Bk := ⟨⟨0, 0, 0⟩⟩
/-- The links bs make the tree. -/
def IsT (bs : List Bk) : Tr → Prop
  | .nil => True
  | .node l a r => 0 < a ∧ (∃ b, bs[a]? = some b ∧ b.lf = l.top ∧ b.rt = r.top) ∧ IsT bs l ∧ IsT bs r
/-- Only the links of the addresses S may be others. -/
structure Agree (S : List Nat) (bs bs' : List Bk) : Prop where
  len : bs'.length = bs.length
  ah : ∀ a : Nat, (bs'[a]?).map Bk.ah = (bs[a]?).map Bk.ah
  out : ∀ a : Nat, a ∉ S → bs'[a]? = bs[a]?
theorem Agree.refl (S : List Nat) (bs : List Bk) : Agree S bs bs := ⟨rfl, fun _ => rfl, fun _ _ => rfl⟩
theorem Agree.mono {S T : List Nat} {a b : List Bk} (h : Agree S a b) (hs : ∀ x ∈ S, x ∈ T) : Agree T a b := ⟨h.len, h.ah, fun x hx => h.out x (fun hh => hx (hs x hh))⟩
theorem Agree.trans {S : List Nat} {a b c : List Bk} (h : Agree S a b) (k : Agree S b c) : Agree S a c := ⟨k.len.trans h.len, fun x => (k.ah x).trans (h.ah x), fun x hx => (k.out x hx).trans (h.out x hx)⟩
theorem Agree.set {S : List Nat} {a : List Bk} {x : Nat} {b b' : Bk} (hx : x ∈ S) (hb : a[x]? = some b) (hah : b'.ah = b.ah) : Agree S a (a.set x b') := by
  refine ⟨List.length_set, fun y => ?_, fun y hy => ?_⟩
  · by_cases h : x = y
    · subst h
      rw [List.getElem?_set_self (List.getElem?_eq_some_iff.1 hb).1, hb]
      simp [hah]
    · rw [List.getElem?_set_ne h]
  · rw [List.getElem?_set_ne (fun e => hy (by rw [← e]; exact hx))]
theorem IsT.keep {bs bs' : List Bk} : ∀ {t : Tr}, IsT bs t → (∀ a ∈ t.flat, bs'[a]? = bs[a]?) → IsT bs' t
  | .nil, _, _ => trivial
  | .node l a r, ⟨h0, ⟨b, h1, h2, h3⟩, h4, h5⟩, hk => by
    refine ⟨h0, ⟨b, (hk a (by simp [Tr.flat])).trans h1, h2, h3⟩, h4.keep fun x hx => hk x (by simp [Tr.flat, hx]), h5.keep fun x hx => hk x (by simp [Tr.flat, hx])⟩
theorem IsT.agree {bs bs' : List Bk} {S : List Nat} {t : Tr} (h : IsT bs t) (ha : Agree S bs bs') (hd : ∀ a ∈ t.flat, a ∉ S) : IsT bs' t := h.keep fun a hx => ha.out a (hd a hx)
theorem IsT.pos {bs : List Bk} : ∀ {t : Tr}, IsT bs t → ∀ a ∈ t.flat, 0 < a ∧ a < bs.length
  | .nil, _, a, h => by simp [Tr.flat] at h
  | .node l x r, ⟨h0, ⟨b, h1, _⟩, h4, h5⟩, a, h => by
    simp only [Tr.flat, List.mem_append, List.mem_cons] at h
    rcases h with h | rfl | h
    · exact h4.pos a h
    · exact ⟨h0, (List.getElem?_eq_some_iff.1 h1).1⟩
    · exact h5.pos a h
/-- A list in two parts, at a key. -/
def splitT (key : Nat → Int) (k : Int) : Tr → Tr × Tr
  | .nil => (.nil, .nil)
  | .node l a r => if key a < k then (.node l a (splitT key k r).1, (splitT key k r).2) else ((splitT key k l).1, .node (splitT key k l).2 a r)
theorem splitT_flat (key : Nat → Int) (k : Int) : ∀ t : Tr, (splitT key k t).1.flat ++ (splitT key k t).2.flat = t.flat
  | .nil => rfl
  | .node l a r => by
    unfold splitT
    split
    · simp only [Tr.flat, List.append_assoc, List.cons_append]
      rw [splitT_flat key k r]
    · simp only [Tr.flat]
      rw [← List.append_assoc, splitT_flat key k l]
/-- In the order of keys. -/
def Sorted (key : Nat → Int) (l : List Nat) : Prop := l.Pairwise fun a b => key a < key b
theorem splitT_keys (key : Nat → Int) (k : Int) : ∀ t : Tr, Sorted key t.flat → (∀ a ∈ (splitT key k t).1.flat, key a < k) ∧ ∀ a ∈ (splitT key k t).2.flat, k ≤ key a
  | .nil, _ => ⟨fun a h => by simp [splitT, Tr.flat] at h, fun a h => by simp [splitT, Tr.flat] at h⟩
  | .node l a r, hs => by
    have hs' := hs
    unfold Sorted at hs
    simp only [Tr.flat] at hs
    rw [List.pairwise_append] at hs
    obtain ⟨hl, har, hlr⟩ := hs
    rw [List.pairwise_cons] at har
    unfold splitT
    split
    · rename_i hk
      obtain ⟨h1, h2⟩ := splitT_keys key k r har.2
      refine ⟨fun x hx => ?_, h2⟩
      simp only [Tr.flat, List.mem_append, List.mem_cons] at hx
      rcases hx with hx | rfl | hx
      · have := hlr x hx a (by simp)
        omega
      · exact hk
      · exact h1 x hx
    · rename_i hk
      obtain ⟨h1, h2⟩ := splitT_keys key k l hl
      refine ⟨h1, fun x hx => ?_⟩
      simp only [Tr.flat, List.mem_append, List.mem_cons] at hx
      rcases hx with hx | rfl | hx
      · exact h2 x hx
      · omega
      · have := har.1 x hx
        omega
/-- The first of a list whose key is not below k; 0: none. -/
def firstL (key : Nat → Int) (k : Int) (l : List Nat) : Nat := (l.find? fun a => decide (k ≤ key a)).getD 0
/-- A search from the top of a tree, with what was found on the way. -/
theorem first_right {key : Nat → Int} {k : Int} {l r : Tr} {a : Nat} (hs : Sorted key (Tr.node l a r).flat) (h : key a < k) : (Tr.node l a r).flat.find? (fun a => decide (k ≤ key a)) = r.flat.find? (fun a => decide (k ≤ key a)) := by
  unfold Sorted at hs
  simp only [Tr.flat] at hs ⊢
  rw [List.pairwise_append] at hs
  rw [List.find?_append]
  have hl : l.flat.find? (fun a => decide (k ≤ key a)) = none := by
    rw [List.find?_eq_none]
    intro x hx
    have := hs.2.2 x hx a (by simp)
    simp
    omega
  rw [hl, Option.none_or, List.find?_cons]
  rw [decide_eq_false (by omega)]
theorem first_left {key : Nat → Int} {k : Int} {l r : Tr} {a : Nat} (h : ¬ key a < k) : (Tr.node l a r).flat.find? (fun a => decide (k ≤ key a)) = (l.flat.find? fun a => decide (k ≤ key a)).or (some a) := by
  simp only [Tr.flat]
  rw [List.find?_append, List.find?_cons, decide_eq_true (by omega)]
theorem Sorted.left {key : Nat → Int} {l r : Tr} {a : Nat} (hs : Sorted key (Tr.node l a r).flat) : Sorted key l.flat := by
  unfold Sorted at *
  simp only [Tr.flat] at hs
  exact (List.pairwise_append.1 hs).1
theorem Sorted.right {key : Nat → Int} {l r : Tr} {a : Nat} (hs : Sorted key (Tr.node l a r).flat) : Sorted key r.flat := by
  unfold Sorted at *
  simp only [Tr.flat] at hs
  exact (List.pairwise_cons.1 (List.pairwise_append.1 hs).2.1).2
theorem Sorted.nodup {key : Nat → Int} {l : List Nat} (h : Sorted key l) : l.Nodup := h.imp fun {a b} hab e => by subst e; omega
theorem IsT.set {bs : List Bk} {t : Tr} {a : Nat} {x : Bk} (h : IsT bs t) (ha : a ∉ t.flat) : IsT (bs.set a x) t := h.keep fun y hy => List.getElem?_set_ne (fun e => ha (by rw [e]; exact hy))
theorem link_right {bs : List Bk} {l t : Tr} {a : Nat} {b : Bk} (hl : IsT bs l) (ht : IsT bs t) (hb : bs[a]? = some b) (hlf : b.lf = l.top) (h0 : 0 < a) (hal : a ∉ l.flat) (hat : a ∉ t.flat) : IsT (bs.set a ⟨b.ah, b.lf, t.top⟩) (.node l a t) :=
  ⟨h0, ⟨_, List.getElem?_set_self (List.getElem?_eq_some_iff.1 hb).1, hlf, rfl⟩, hl.set hal, ht.set hat⟩
theorem link_left {bs : List Bk} {r t : Tr} {a : Nat} {b : Bk} (hr : IsT bs r) (ht : IsT bs t) (hb : bs[a]? = some b) (hrt : b.rt = r.top) (h0 : 0 < a) (har : a ∉ r.flat) (hat : a ∉ t.flat) : IsT (bs.set a ⟨b.ah, t.top, b.rt⟩) (.node t a r) :=
  ⟨h0, ⟨_, List.getElem?_set_self (List.getElem?_eq_some_iff.1 hb).1, rfl, hrt⟩, ht.set hat, hr.set har⟩
theorem splitT_sub (key : Nat → Int) (k : Int) (t : Tr) : (∀ x ∈ (splitT key k t).1.flat, x ∈ t.flat) ∧ ∀ x ∈ (splitT key k t).2.flat, x ∈ t.flat :=
  ⟨fun x hx => by rw [← splitT_flat key k t]; exact List.mem_append_left _ hx, fun x hx => by rw [← splitT_flat key k t]; exact List.mem_append_right _ hx⟩
theorem node_nodup {l r : Tr} {a : Nat} (h : (Tr.node l a r).flat.Nodup) : l.flat.Nodup ∧ r.flat.Nodup ∧ a ∉ l.flat ∧ a ∉ r.flat ∧ ∀ x ∈ l.flat, x ∉ r.flat := by
  simp only [Tr.flat] at h
  obtain ⟨h1, h2, h3⟩ := List.nodup_append.1 h
  obtain ⟨h4, h5⟩ := List.nodup_cons.1 h2
  exact ⟨h1, h5, fun hx => h3 a hx a (by simp) rfl, h4, fun x hx hy => h3 x hx x (by simp [hy]) rfl⟩
/-- The size of a block, by its head; its key; the class of a size. -/
def szW (ws : List Int) (a : Nat) : Nat := ((ws[a]?.getD 0) / 2).toNat
def keyW (ws : List Int) (a : Nat) : Int := (szW ws a : Int) * 1048576 + a
def cls (n : Nat) : Nat := Lib.bitLen n
theorem aux_mono : ∀ (f x y : Nat), x ≤ y → Lib.bitLenAux f x ≤ Lib.bitLenAux f y
  | 0, _, _, _ => Nat.le_refl _
  | f + 1, x, y, h => by
    unfold Lib.bitLenAux
    by_cases hx : x = 0
    · rw [if_pos hx]; exact Nat.zero_le _
    · rw [if_neg hx, if_neg (by omega)]
      have := aux_mono f (x / 2) (y / 2) (by omega)
      omega
theorem cls_mono {x y : Nat} (h : x ≤ y) : cls x ≤ cls y := aux_mono 64 x y h
theorem cls_lt {x : Nat} (h : x < 1048576) : cls x ≤ 20 := Lib.bitLen_le x 20 (by decide) h
/-- The lists of free blocks: those of which P tells, each in the list of its class; whatever is in none has no links. -/
structure FL (ws : List Int) (bs : List Bk) (fr : List Nat) (P : Nat → Prop) : Prop where
  len : fr.length = 21
  tree : ∀ c, c < 21 → ∃ t : Tr, IsT bs t ∧ fr[c]? = some t.top ∧ Sorted (keyW ws) t.flat ∧ ∀ a, a ∈ t.flat ↔ P a ∧ cls (szW ws a) = c
  bare : ∀ (a : Nat) (b : Bk), ¬ P a → bs[a]? = some b → b.lf = 0 ∧ b.rt = 0
theorem keyW_congr {ws ws' : List Int} {a : Nat} (h : ws'[a]? = ws[a]?) : keyW ws' a = keyW ws a ∧ szW ws' a = szW ws a := by
  unfold keyW szW
  rw [h]
  exact ⟨rfl, rfl⟩
theorem Sorted.congr {k k' : Nat → Int} {l : List Nat} (h : Sorted k l) (hk : ∀ a ∈ l, k' a = k a) : Sorted k' l :=
  List.Pairwise.imp_of_mem (fun {a b} ha hb hab => by rw [hk a ha, hk b hb]; exact hab) h
theorem FL.words {ws ws' : List Int} {bs : List Bk} {fr : List Nat} {P : Nat → Prop} (h : FL ws bs fr P) (hw : ∀ a, P a → ws'[a]? = ws[a]?) : FL ws' bs fr P := by
  refine ⟨h.len, fun c hc => ?_, h.bare⟩
  obtain ⟨t, h1, h2, h3, h4⟩ := h.tree c hc
  refine ⟨t, h1, h2, h3.congr fun a ha => (keyW_congr (hw a ((h4 a).1 ha).1)).1, fun a => ?_⟩
  rw [h4 a]
  constructor
  · intro ⟨hp, hq⟩
    exact ⟨hp, by rw [(keyW_congr (hw a hp)).2]; exact hq⟩
  · intro ⟨hp, hq⟩
    exact ⟨hp, by rw [← (keyW_congr (hw a hp)).2]; exact hq⟩
/-- The links of a tree's blocks hang on left and right alone. -/
theorem IsT.links {bs bs' : List Bk} : ∀ {t : Tr}, IsT bs t → (∀ a ∈ t.flat, ∀ b, bs[a]? = some b → ∃ b', bs'[a]? = some b' ∧ b'.lf = b.lf ∧ b'.rt = b.rt) → IsT bs' t
  | .nil, _, _ => trivial
  | .node l a r, ⟨h0, ⟨b, h1, h2, h3⟩, h4, h5⟩, hk => by
    obtain ⟨b', k1, k2, k3⟩ := hk a (by simp [Tr.flat]) b h1
    exact ⟨h0, ⟨b', k1, k2.trans h2, k3.trans h3⟩, h4.links fun x hx => hk x (by simp [Tr.flat, hx]), h5.links fun x hx => hk x (by simp [Tr.flat, hx])⟩
/-- A block's note on the block ahead of it is turned. -/
theorem FL.ahead {ws : List Int} {bs : List Bk} {fr : List Nat} {P : Nat → Prop} {x v : Nat} {b : Bk} (h : FL ws bs fr P) (hb : bs[x]? = some b) : FL ws (bs.set x ⟨v, b.lf, b.rt⟩) fr P := by
  have key : ∀ (a : Nat) (c : Bk), bs[a]? = some c → ∃ c', (bs.set x ⟨v, b.lf, b.rt⟩)[a]? = some c' ∧ c'.lf = c.lf ∧ c'.rt = c.rt := by
    intro a c hc
    by_cases hx : x = a
    · subst hx
      rw [hb] at hc
      obtain rfl := Option.some.inj hc
      exact ⟨_, List.getElem?_set_self (List.getElem?_eq_some_iff.1 hb).1, rfl, rfl⟩
    · exact ⟨c, by rw [List.getElem?_set_ne hx]; exact hc, rfl, rfl⟩
  refine ⟨h.len, fun c hc => ?_, fun a c hp hc => ?_⟩
  · obtain ⟨t, h1, h2, h3, h4⟩ := h.tree c hc
    exact ⟨t, h1.links fun a _ c hc => key a c hc, h2, h3, h4⟩
  · by_cases hx : x = a
    · subst hx
      rw [List.getElem?_set_self (List.getElem?_eq_some_iff.1 hb).1] at hc
      obtain rfl := Option.some.inj hc
      exact h.bare x b hp hb
    · rw [List.getElem?_set_ne hx] at hc
      exact h.bare a c hp hc
/-- A block that is in no list is forgotten. -/
theorem FL.forget {ws : List Int} {bs : List Bk} {fr : List Nat} {P : Nat → Prop} {x : Nat} (h : FL ws bs fr P) (hp : ¬ P x) (hx : x < bs.length) : FL ws (bs.set x ⟨0, 0, 0⟩) fr P := by
  refine ⟨h.len, fun c hc => ?_, fun a b hq hb => ?_⟩
  · obtain ⟨t, h1, h2, h3, h4⟩ := h.tree c hc
    exact ⟨t, h1.set fun ha => hp ((h4 x).1 ha).1, h2, h3, h4⟩
  · by_cases he : x = a
    · subst he
      rw [List.getElem?_set_self hx] at hb
      obtain rfl := Option.some.inj hb
      exact ⟨rfl, rfl⟩
    · rw [List.getElem?_set_ne he] at hb
      exact h.bare a b hq hb
/-- One list is turned, and the links of its blocks and of one more. -/
theorem FL.turn {ws : List Int} {bs bs' : List Bk} {fr : List Nat} {P P' : Nat → Prop} {c : Nat} {t t' : Tr} {S : List Nat} (h : FL ws bs fr P) (hc : c < 21) (ha : Agree S bs bs')
    (hS : ∀ a ∈ S, cls (szW ws a) = c) (ht : IsT bs' t') (hs : Sorted (keyW ws) t'.flat) (hm : ∀ a, a ∈ t'.flat ↔ P' a ∧ cls (szW ws a) = c)
    (ho : ∀ a, cls (szW ws a) ≠ c → (P' a ↔ P a)) (hb : ∀ (a : Nat) (b : Bk), a ∈ S → ¬ P' a → bs'[a]? = some b → b.lf = 0 ∧ b.rt = 0) (hbo : ∀ a, a ∉ S → ¬ P' a → ¬ P a) : FL ws bs' (fr.set c t'.top) P' := by
  refine ⟨by rw [List.length_set]; exact h.len, fun d hd => ?_, fun a b hp hx => ?_⟩
  · by_cases he : c = d
    · subst he
      exact ⟨t', ht, List.getElem?_set_self (by rw [h.len]; exact hc), hs, hm⟩
    · obtain ⟨u, h1, h2, h3, h4⟩ := h.tree d hd
      refine ⟨u, h1.agree ha fun a hu hS' => he ((hS a hS').symm.trans ((h4 a).1 hu).2), by rw [List.getElem?_set_ne he]; exact h2, h3, fun a => ?_⟩
      rw [h4 a]
      constructor
      · intro ⟨x, y⟩
        exact ⟨(ho a (by rw [y]; exact fun e => he e.symm)).2 x, y⟩
      · intro ⟨x, y⟩
        exact ⟨(ho a (by rw [y]; exact fun e => he e.symm)).1 x, y⟩
  · by_cases hi : a ∈ S
    · exact hb a b hi hp hx
    · rw [ha.out a hi] at hx
      exact h.bare a b (hbo a hi hp) hx
theorem Sorted.inj {key : Nat → Int} {l : List Nat} (h : Sorted key l) {a b : Nat} (ha : a ∈ l) (hb : b ∈ l) (hk : key a = key b) : a = b := by
  induction l with
  | nil => simp at ha
  | cons x l ih =>
    unfold Sorted at h
    obtain ⟨h1, h2⟩ := List.pairwise_cons.1 h
    rcases List.mem_cons.1 ha with rfl | ha1 <;> rcases List.mem_cons.1 hb with rfl | hb1
    · rfl
    · have := h1 b hb1; omega
    · have := h1 a ha1; omega
    · exact ih h2 ha1 hb1
theorem flat_one {t : Tr} {a : Nat} (h : t.flat = [a]) : t = .node .nil a .nil := by
  cases t with
  | nil => simp [Tr.flat] at h
  | node l x r =>
    simp only [Tr.flat] at h
    have hl : l.flat = [] := by
      cases hl : l.flat with
      | nil => rfl
      | cons y ys => rw [hl] at h; simp at h
    rw [hl] at h
    simp only [List.nil_append, List.cons.injEq] at h
    obtain ⟨rfl, hr⟩ := h
    have nil_of : ∀ {u : Tr}, u.flat = [] → u = .nil := fun {u} hu => by
      cases u with
      | nil => rfl
      | node p q s => simp [Tr.flat] at hu
    rw [nil_of hl, nil_of hr]
theorem rem_list {key : Nat → Int} {t : Tr} {a : Nat} (hs : Sorted key t.flat) (ha : a ∈ t.flat) :
    (splitT key (key a + 1) (splitT key (key a) t).2).1.flat = [a] ∧ Sorted key ((splitT key (key a) t).1.flat ++ (splitT key (key a + 1) (splitT key (key a) t).2).2.flat) ∧
    ∀ x, x ∈ (splitT key (key a) t).1.flat ++ (splitT key (key a + 1) (splitT key (key a) t).2).2.flat ↔ x ∈ t.flat ∧ x ≠ a := by
  have e1 := splitT_flat key (key a) t
  obtain ⟨k1, k2⟩ := splitT_keys key (key a) t hs
  generalize splitT key (key a) t = p at *
  have hs' := hs
  rw [← e1] at hs'
  have hs2 : Sorted key p.2.flat := (List.pairwise_append.1 hs').2.1
  have e2 := splitT_flat key (key a + 1) p.2
  obtain ⟨k3, k4⟩ := splitT_keys key (key a + 1) p.2 hs2
  generalize splitT key (key a + 1) p.2 = q at *
  have hall : ∀ x ∈ q.1.flat, x = a := fun x hx => by
    have h1 : x ∈ p.2.flat := by rw [← e2]; exact List.mem_append_left _ hx
    have h2 : x ∈ t.flat := by rw [← e1]; exact List.mem_append_right _ h1
    have := k2 x h1
    have := k3 x hx
    exact hs.inj h2 ha (by omega)
  have hin : a ∈ q.1.flat := by
    rw [← e1, ← e2] at ha
    rcases List.mem_append.1 ha with h | h
    · have := k1 a h; omega
    · rcases List.mem_append.1 h with h | h
      · exact h
      · have := k4 a h; omega
  have hq1 : q.1.flat = [a] := by
    have hnd : q.1.flat.Nodup := by
      rw [← e2] at hs2
      exact Sorted.nodup (List.pairwise_append.1 hs2).1
    cases hq : q.1.flat with
    | nil => rw [hq] at hin; simp at hin
    | cons x xs =>
      rw [hq] at hall hnd
      have hx := hall x (by simp)
      subst hx
      cases xs with
      | nil => rfl
      | cons y ys =>
        have hy := hall y (by simp)
        subst hy
        simp at hnd
  refine ⟨hq1, ?_, fun x => ?_⟩
  · refine List.Pairwise.sublist ?_ hs'
    rw [← e2]
    exact List.Sublist.append (List.Sublist.refl _) (List.sublist_append_right _ _)
  · rw [← e1, ← e2, hq1]
    have hn := Sorted.nodup hs
    rw [← e1, ← e2, hq1] at hn
    simp only [List.mem_append, List.mem_singleton] at hn ⊢
    obtain ⟨n1, n2, n3⟩ := List.nodup_append.1 hn
    obtain ⟨n4, n5⟩ := List.nodup_append.1 n2 |> fun h => (⟨h.1, h.2.2⟩ : _ ∧ _)
    constructor
    · rintro (h | h)
      · exact ⟨.inl h, fun e => n3 x h a (by simp) e⟩
      · exact ⟨.inr (.inr h), fun e => n5 a (by simp) x h e.symm⟩
    · rintro ⟨h | h | h, hne⟩
      · exact .inl h
      · exact absurd h hne
      · exact .inr h
theorem add_list {key : Nat → Int} {t : Tr} {a : Nat} (hs : Sorted key t.flat) (hne : ∀ x ∈ t.flat, key x ≠ key a) : Sorted key ((splitT key (key a) t).1.flat ++ a :: (splitT key (key a) t).2.flat) := by
  have e1 := splitT_flat key (key a) t
  obtain ⟨k1, k2⟩ := splitT_keys key (key a) t hs
  generalize splitT key (key a) t = p at *
  have hs' := hs
  rw [← e1] at hs'
  obtain ⟨h1, h2, h3⟩ := List.pairwise_append.1 hs'
  unfold Sorted
  rw [List.pairwise_append]
  refine ⟨h1, List.pairwise_cons.2 ⟨fun x hx => ?_, h2⟩, fun x hx y hy => ?_⟩
  · have := k2 x hx
    have := hne x (by rw [← e1]; exact List.mem_append_right _ hx)
    omega
  · rcases List.mem_cons.1 hy with rfl | hy
    · exact k1 x hx
    · exact h3 x hx y hy
/-- A block: whether it is used, and its body. -/
structure Blk where
  us : Bool
  body : List Int
def Blk.sz (b : Blk) : Nat := b.body.length + 1
def Blk.hd (b : Blk) : Int := 2 * (b.sz : Int) + (if b.us = true then 1 else 0)
def Blk.enc (b : Blk) : List Int := b.hd :: b.body
theorem Blk.enc_len (b : Blk) : b.enc.length = b.sz := rfl
def Blk.note (p : Nat) (b : Blk) : List Nat := p :: List.replicate b.body.length 0
theorem Blk.note_len (p : Nat) (b : Blk) : (b.note p).length = b.sz := by unfold Blk.note Blk.sz; simp
/-- All words; all notes on the blocks ahead. -/
def words (Bs : List Blk) : List Int := 0 :: Bs.flatMap Blk.enc
def notes : Nat → List Blk → List Nat
  | _, [] => []
  | p, b :: r => b.note p ++ notes b.sz r
def ahs (Bs : List Blk) : List Nat := 0 :: notes 1 Bs
def len (Bs : List Blk) : Nat := (Bs.map Blk.sz).sum
theorem len_nil : len [] = 0 := rfl
theorem len_cons (b : Blk) (r : List Blk) : len (b :: r) = b.sz + len r := by simp [len]
theorem len_append (a b : List Blk) : len (a ++ b) = len a + len b := by simp [len]
theorem enc_length : ∀ Bs : List Blk, (Bs.flatMap Blk.enc).length = len Bs
  | [] => rfl
  | b :: r => by rw [List.flatMap_cons, List.length_append, Blk.enc_len, enc_length r, len_cons]
theorem words_length (Bs : List Blk) : (words Bs).length = 1 + len Bs := by unfold words; rw [List.length_cons, enc_length]; omega
theorem notes_length : ∀ (p : Nat) (Bs : List Blk), (notes p Bs).length = len Bs
  | _, [] => rfl
  | p, b :: r => by rw [notes, List.length_append, Blk.note_len, notes_length _ r, len_cons]
theorem ahs_length (Bs : List Blk) : (ahs Bs).length = 1 + len Bs := by unfold ahs; rw [List.length_cons, notes_length]; omega
/-- At the address a the block b begins, behind the blocks pre, ahead of the blocks post. -/
def lastSz : Nat → List Blk → Nat
  | p, [] => p
  | _, b :: r => lastSz b.sz r
theorem notes_append : ∀ (p : Nat) (a b : List Blk), notes p (a ++ b) = notes p a ++ notes (lastSz p a) b
  | _, [], _ => rfl
  | p, x :: a, b => by rw [List.cons_append, notes, notes, lastSz, notes_append, List.append_assoc]
theorem words_split (pre : List Blk) (b : Blk) (post : List Blk) : words (pre ++ b :: post) = words pre ++ (b.hd :: b.body ++ post.flatMap Blk.enc) := by
  unfold words Blk.enc
  rw [List.flatMap_append, List.flatMap_cons]
  rfl
theorem ahs_split (pre : List Blk) (b : Blk) (post : List Blk) : ahs (pre ++ b :: post) = ahs pre ++ (lastSz 1 pre :: List.replicate b.body.length 0 ++ notes b.sz post) := by
  unfold ahs
  rw [notes_append, notes]
  rfl
theorem words_head (pre : List Blk) (b : Blk) (post : List Blk) : (words (pre ++ b :: post))[1 + len pre]? = some b.hd := by
  rw [words_split, List.getElem?_append_right (by rw [words_length]; exact Nat.le_refl _), words_length, Nat.sub_self]
  rfl
theorem words_body (pre : List Blk) (b : Blk) (post : List Blk) (j : Nat) (hj : j < b.body.length) : (words (pre ++ b :: post))[1 + len pre + 1 + j]? = b.body[j]? := by
  rw [words_split, List.getElem?_append_right (by rw [words_length]; omega), words_length, show 1 + len pre + 1 + j - (1 + len pre) = j + 1 by omega]
  rw [List.cons_append, List.getElem?_cons_succ, List.getElem?_append_left hj]
theorem ahs_head (pre : List Blk) (b : Blk) (post : List Blk) : (ahs (pre ++ b :: post))[1 + len pre]? = some (lastSz 1 pre) := by
  rw [ahs_split, List.getElem?_append_right (by rw [ahs_length]; exact Nat.le_refl _), ahs_length, Nat.sub_self]
  rfl
theorem lastSz_pos : ∀ (p : Nat) (Bs : List Blk), 0 < p → 0 < lastSz p Bs
  | _, [], h => h
  | _, b :: r, _ => lastSz_pos _ r (by unfold Blk.sz; omega)
/-- Where a block begins. -/
def At (Bs : List Blk) (a : Nat) (b : Blk) : Prop := ∃ pre post, Bs = pre ++ b :: post ∧ a = 1 + len pre
theorem notes_at : ∀ (p : Nat) (Bs : List Blk) (x : Nat), x < len Bs → (∃ pre b post, Bs = pre ++ b :: post ∧ x = len pre) ∨ (notes p Bs)[x]? = some 0
  | _, [], x, h => by rw [len_nil] at h; omega
  | p, b :: r, x, h => by
    by_cases h0 : x = 0
    · exact .inl ⟨[], b, r, rfl, h0⟩
    · by_cases h1 : x < b.sz
      · right
        rw [notes, List.getElem?_append_left (by rw [Blk.note_len]; exact h1)]
        unfold Blk.note
        obtain ⟨y, rfl⟩ : ∃ y, x = y + 1 := ⟨x - 1, by omega⟩
        rw [List.getElem?_cons_succ, List.getElem?_replicate, if_pos (by unfold Blk.sz at h1; omega)]
      · rw [len_cons] at h
        rcases notes_at b.sz r (x - b.sz) (by omega) with ⟨pre, c, post, rfl, hx⟩ | hx
        · exact .inl ⟨b :: pre, c, post, rfl, by rw [len_cons]; omega⟩
        · right
          rw [notes, List.getElem?_append_right (by rw [Blk.note_len]; omega), Blk.note_len]
          exact hx
theorem ahs_at (Bs : List Blk) (x : Nat) (h : x < (words Bs).length) : (∃ b, At Bs x b) ∨ (ahs Bs)[x]? = some 0 := by
  rw [words_length] at h
  by_cases h0 : x = 0
  · subst h0
    exact .inr rfl
  · rcases notes_at 1 Bs (x - 1) (by omega) with ⟨pre, b, post, e, hx⟩ | hx
    · exact .inl ⟨b, pre, post, e, by omega⟩
    · right
      unfold ahs
      obtain ⟨y, rfl⟩ : ∃ y, x = y + 1 := ⟨x - 1, by omega⟩
      rw [List.getElem?_cons_succ]
      exact hx
theorem At.facts {Bs : List Blk} {a : Nat} {b : Blk} (h : At Bs a b) : 0 < a ∧ a < (words Bs).length ∧ (words Bs)[a]? = some b.hd ∧ ∃ p, (ahs Bs)[a]? = some p ∧ 0 < p := by
  obtain ⟨pre, post, rfl, rfl⟩ := h
  refine ⟨by omega, ?_, words_head _ _ _, _, ahs_head _ _ _, lastSz_pos _ _ (by decide)⟩
  rw [words_length, len_append, len_cons]
  unfold Blk.sz
  omega
/-- Blocks that begin at one place are one, with the same ones ahead and behind. -/
theorem at_unique : ∀ {pre pre' : List Blk} {b b' : Blk} {post post' : List Blk}, pre ++ b :: post = pre' ++ b' :: post' → len pre = len pre' → pre = pre' ∧ b = b' ∧ post = post'
  | [], [], b, b', post, post', h, _ => by simp at h; exact ⟨rfl, h.1, h.2⟩
  | [], x :: pre', _, _, _, _, _, hl => by rw [len_nil, len_cons] at hl; unfold Blk.sz at hl; omega
  | x :: pre, [], _, _, _, _, _, hl => by rw [len_nil, len_cons] at hl; unfold Blk.sz at hl; omega
  | x :: pre, y :: pre', b, b', post, post', h, hl => by
    rw [List.cons_append, List.cons_append, List.cons.injEq] at h
    obtain ⟨rfl, h⟩ := h
    rw [len_cons, len_cons] at hl
    obtain ⟨rfl, rfl, rfl⟩ := at_unique h (by omega)
    exact ⟨rfl, rfl, rfl⟩
theorem At.unique {Bs : List Blk} {a : Nat} {b b' : Blk} (h : At Bs a b) (h' : At Bs a b') : b = b' := by
  obtain ⟨pre, post, rfl, rfl⟩ := h
  obtain ⟨pre', post', e, hl⟩ := h'
  exact (at_unique e (by omega)).2.1
def FreeAt (Bs : List Blk) (a : Nat) : Prop := ∃ b, At Bs a b ∧ b.us = false
end Go.Proofs.Ytmgpimibnogcaaa
