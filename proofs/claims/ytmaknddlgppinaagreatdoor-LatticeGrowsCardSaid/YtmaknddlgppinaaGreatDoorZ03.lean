/-
  CUT and joined from the texts of this seat: Hp
-/
set_option linter.unusedVariables false
set_option linter.unusedSimpArgs false
namespace Go.Proofs.YtmaknddlgppinaaGreatDoor
open Classical
/-- A class of a table: its names as bytes. -/
structure PC where
 name : List UInt8
 super : List UInt8
 ifaces : List (List UInt8)
 iface : Bool
 abs : Bool
 at_ : Int
deriving DecidableEq
/-- Where a class of a name stands. -/
def ix (cs : List PC) (nm : List UInt8) : Option Nat := cs.findIdx? (fun c => decide (c.name = nm))
theorem ix_some {cs : List PC} {nm : List UInt8} {j : Nat} (h : ix cs nm = some j) : ∃ c, cs[j]? = some c ∧ c.name = nm := by
 unfold ix at h
 rw [List.findIdx?_eq_some_iff_getElem] at h
 obtain ⟨hj, h1, _⟩ := h
 exact ⟨cs[j], by simp [hj], by simpa using h1⟩
theorem ix_lt {cs : List PC} {nm : List UInt8} {j : Nat} (h : ix cs nm = some j) : j < cs.length := by
 obtain ⟨c, hc, _⟩ := ix_some h
 exact (List.getElem?_eq_some_iff.1 hc).1
theorem ix_none {cs : List PC} {nm : List UInt8} : ix cs nm = none ↔ ∀ c ∈ cs, c.name ≠ nm := by
 simp [ix]
theorem ix_app {cs ds : List PC} {nm : List UInt8} {j : Nat} (h : ix cs nm = some j) : ix (cs ++ ds) nm = some j := by
 unfold ix at *
 rw [List.findIdx?_append, h]
 rfl
theorem ix_app_none {cs ds : List PC} {nm : List UInt8} (h : ix cs nm = none) : ix (cs ++ ds) nm = (ix ds nm).map (· + cs.length) := by
 unfold ix at *
 rw [List.findIdx?_append, h]
 simp
/-- No two classes have one name. -/
def Distinct (cs : List PC) : Prop := ∀ (i j : Nat) (c d : PC), cs[i]? = some c → cs[j]? = some d → c.name = d.name → i = j
theorem ix_of {cs : List PC} (hd : Distinct cs) {j : Nat} {c : PC} (h : cs[j]? = some c) : ix cs c.name = some j := by
 cases hi : ix cs c.name with
 | none => exact absurd rfl (ix_none.1 hi c (List.mem_of_getElem? h))
 | some k =>
  obtain ⟨d, hd1, hd2⟩ := ix_some hi
  rw [hd k j d c hd1 h hd2]
theorem distinct_snoc {cs : List PC} {c : PC} (hd : Distinct cs) (h : ix cs c.name = none) : Distinct (cs ++ [c]) := by
 intro i j a b ha hb hab
 have hn := ix_none.1 h
 have one : ∀ {k : Nat} {x : PC}, (cs ++ [c])[k]? = some x → cs[k]? = some x ∨ k = cs.length ∧ x = c := by
  intro k x hx
  by_cases hk : k < cs.length
  ·left; rwa [List.getElem?_append_left hk] at hx
  ·right
   rw [List.getElem?_append_right (by omega)] at hx
   have : k - cs.length = 0 := by
    rcases Nat.eq_zero_or_pos (k - cs.length) with h0 | h0
    ·exact h0
    ·rw [List.getElem?_eq_none (by simp; omega)] at hx; cases hx
   rw [this] at hx
   exact ⟨by omega, by simpa using hx.symm⟩
 rcases one ha with h1 | ⟨h1, rfl⟩ <;> rcases one hb with h2 | ⟨h2, rfl⟩
 ·exact hd i j a b h1 h2 hab
 ·exact absurd hab (hn a (List.mem_of_getElem? h1))
 ·exact absurd hab.symm (hn b (List.mem_of_getElem? h2))
 ·omega
/-- Directly above. -/
def Up (cs : List PC) (i j : Nat) : Prop := ∃ c, cs[i]? = some c ∧ (ix cs c.super = some j ∨ ∃ nm ∈ c.ifaces, ix cs nm = some j)
/-- Above. -/
inductive Abv (cs : List PC) : Nat → Nat → Prop
 | one {i j : Nat} : Up cs i j → Abv cs i j
 | more {i j k : Nat} : Up cs i j → Abv cs j k → Abv cs i k
theorem Up.lt {cs : List PC} {i j : Nat} (h : Up cs i j) : i < cs.length ∧ j < cs.length := by
 obtain ⟨c, hc, h⟩ := h
 refine ⟨(List.getElem?_eq_some_iff.1 hc).1, ?_⟩
 rcases h with h | ⟨nm, _, h⟩ <;> exact ix_lt h
theorem Abv.trans {cs : List PC} {i j k : Nat} (h : Abv cs i j) (h2 : Abv cs j k) : Abv cs i k := by
 induction h with
 | one h => exact .more h h2
 | more h _ ih => exact .more h (ih h2)
theorem Abv.lt {cs : List PC} {i j : Nat} (h : Abv cs i j) : i < cs.length ∧ j < cs.length := by
 induction h with
 | one h => exact h.lt
 | more h _ ih => exact ⟨h.lt.1, ih.2⟩
def objB : List UInt8 := [79, 98, 106, 101, 99, 116]
def strB : List UInt8 := [83, 116, 114, 105, 110, 103]
def weakB : List UInt8 := [87, 101, 97, 107]
def loadB : List UInt8 := [76, 111, 97, 100, 101, 114]
def throwB : List UInt8 := [84, 104, 114, 111, 119, 97, 98, 108, 101]
/-- Whether the class of a name is an interface; false where there is none. -/
def isI (cs : List PC) (nm : List UInt8) : Bool := match ix cs nm with
 | none => false
 | some j => match cs[j]? with
  | none => false
  | some c => c.iface
/-- Why a class can't be below those that it names. -/
def kindE (cs : List PC) (c : PC) : Nat :=
 if ix cs c.super = none ∨ (∃ nm ∈ c.ifaces, ix cs nm = none) then 14
 else if isI cs c.super = true ∨ c.super = strB ∨ c.super = weakB ∨ c.super = loadB ∨ (c.iface = true ∧ c.super ≠ objB) ∨ (∃ nm ∈ c.ifaces, isI cs nm = false) then 17
 else 0
/-- What a table keeps. -/
structure Good (cs : List PC) : Prop where
 apart : Distinct cs
 named : ∀ c ∈ cs, c.name ≠ []
 obj : cs[0]? = some ⟨objB, [], [], false, false, -1⟩
 kind : ∀ (i : Nat) (c : PC), cs[i]? = some c → i ≠ 0 → kindE cs c = 0
 acyc : ∀ i, ¬ Abv cs i i
theorem kindE_zero {cs : List PC} {c : PC} (h : kindE cs c = 0) :
  (∃ s, ix cs c.super = some s) ∧ (∀ nm ∈ c.ifaces, ∃ j, ix cs nm = some j) ∧ isI cs c.super = false ∧ c.super ≠ strB ∧ c.super ≠ weakB ∧ c.super ≠ loadB ∧ (c.iface = true → c.super = objB) ∧ ∀ nm ∈ c.ifaces, isI cs nm = true := by
 unfold kindE at h
 split at h
 ·cases h
 rename_i h1
 split at h
 ·cases h
 rename_i h2
 refine ⟨?_, ?_, ?_, fun e => h2 (.inr (.inl e)), fun e => h2 (.inr (.inr (.inl e))), fun e => h2 (.inr (.inr (.inr (.inl e)))), ?_, ?_⟩
 ·cases hx : ix cs c.super with
  | none => exact absurd (.inl hx) h1
  | some s => exact ⟨s, rfl⟩
 ·intro nm hnm
  cases hx : ix cs nm with
  | none => exact absurd (.inr ⟨nm, hnm, hx⟩) h1
  | some s => exact ⟨s, rfl⟩
 ·cases hx : isI cs c.super with
  | true => exact absurd (.inl hx) h2
  | false => rfl
 ·intro hi
  apply byContradiction
  intro hn
  exact h2 (.inr (.inr (.inr (.inr (.inl ⟨hi, hn⟩)))))
 ·intro nm hnm
  cases hx : isI cs nm with
  | true => rfl
  | false => exact absurd (.inr (.inr (.inr (.inr (.inr ⟨nm, hnm, hx⟩))))) h2
/-- The Super of a class. -/
def sup (cs : List PC) (i : Nat) : Option Nat := match cs[i]? with
 | none => none
 | some c => ix cs c.super
theorem sup_up {cs : List PC} {i j : Nat} (h : sup cs i = some j) : Up cs i j := by
 unfold sup at h
 cases hc : cs[i]? with
 | none => simp [hc] at h
 | some c => simp [hc] at h; exact ⟨c, hc, .inl h⟩
section
variable {cs : List PC}
theorem Good.pos (G : Good cs) : 0 < cs.length := (List.getElem?_eq_some_iff.1 G.obj).1
theorem Good.ix_nil (G : Good cs) : ix cs [] = none := ix_none.2 G.named
theorem Good.ix_obj (G : Good cs) : ix cs objB = some 0 := ix_of G.apart G.obj
theorem Good.sup_none (G : Good cs) {i : Nat} (hi : i < cs.length) : sup cs i = none ↔ i = 0 := by
 constructor
 ·intro h
  apply byContradiction
  intro h0
  have hc : cs[i]? = some cs[i] := by simp [hi]
  obtain ⟨⟨s, hs⟩, _⟩ := kindE_zero (G.kind i _ hc h0)
  simp [sup, hc, hs] at h
 ·rintro rfl
  simp [sup, G.obj, G.ix_nil]
theorem Good.no_up_zero (G : Good cs) {j : Nat} : ¬ Up cs 0 j := by
 rintro ⟨c, hc, h⟩
 rw [G.obj] at hc
 cases hc
 rcases h with h | ⟨nm, hnm, _⟩
 ·rw [G.ix_nil] at h; cases h
 ·cases hnm
theorem Good.no_abv_zero (G : Good cs) {j : Nat} : ¬ Abv cs 0 j := by
 intro h
 cases h with
 | one h => exact G.no_up_zero h
 | more h _ => exact G.no_up_zero h
end
/-- How many are above one. -/
noncomputable def rank (cs : List PC) (i : Nat) : Nat := (List.range cs.length).countP (fun j => decide (Abv cs i j))
theorem countP_lt {α : Type} {p q : α → Bool} : ∀ {l : List α}, (∀ x ∈ l, p x = true → q x = true) → (∃ x ∈ l, q x = true ∧ p x = false) → l.countP p < l.countP q
 | [], _, ⟨x, hx, _⟩ => by cases hx
 | y :: l, hs, ⟨x, hx, hq, hp⟩ => by
  have hle : l.countP p ≤ l.countP q := List.countP_mono_left (fun z hz => hs z (List.mem_cons_of_mem _ hz))
  simp only [List.countP_cons]
  rcases List.mem_cons.1 hx with rfl | hx
  ·simp [hq, hp]; omega
  ·have := countP_lt (l := l) (fun z hz => hs z (List.mem_cons_of_mem _ hz)) ⟨x, hx, hq, hp⟩
   have h1 := hs y (List.mem_cons_self)
   cases hpy : p y <;> cases hqy : q y <;> simp_all <;> omega
theorem rank_lt {cs : List PC} (ha : ∀ i, ¬ Abv cs i i) {i j : Nat} (h : Up cs i j) : rank cs j < rank cs i := by
 apply countP_lt
 ·intro x _ hx
  simp only [decide_eq_true_eq] at hx ⊢
  exact .more h hx
 ·exact ⟨j, by simp [h.lt.2], by simpa using Abv.one h, by simpa using ha j⟩
/-- A class and those above it by Super alone. -/
inductive Ch (cs : List PC) : Nat → List Nat → Prop
 | last {i : Nat} : sup cs i = none → Ch cs i [i]
 | next {i j : Nat} {l : List Nat} : sup cs i = some j → Ch cs j l → Ch cs i (i :: l)
theorem ch_some {cs : List PC} (ha : ∀ i, ¬ Abv cs i i) : ∀ (n i : Nat), rank cs i ≤ n → ∃ l, Ch cs i l := by
 intro n
 induction n with
 | zero =>
  intro i hi
  cases hs : sup cs i with
  | none => exact ⟨_, .last hs⟩
  | some j => have := rank_lt ha (sup_up hs); omega
 | succ n ih =>
  intro i hi
  cases hs : sup cs i with
  | none => exact ⟨_, .last hs⟩
  | some j =>
   have := rank_lt ha (sup_up hs)
   obtain ⟨l, hl⟩ := ih j (by omega)
   exact ⟨_, .next hs hl⟩
theorem Ch.mem {cs : List PC} {i : Nat} {l : List Nat} (h : Ch cs i l) {x : Nat} (hx : x ∈ l) : x = i ∨ Abv cs i x := by
 induction h with
 | last _ => exact .inl (by simpa using hx)
 | next hs _ ih =>
  rcases List.mem_cons.1 hx with h | h
  ·exact .inl h
  ·rcases ih h with rfl | h
   ·exact .inr (.one (sup_up hs))
   ·exact .inr (.more (sup_up hs) h)
theorem Ch.last_zero {cs : List PC} (G : Good cs) {i : Nat} {l : List Nat} (h : Ch cs i l) (hi : i < cs.length) : l.getLast? = some 0 := by
 induction h with
 | last h => simp [(G.sup_none hi).1 h]
 | @next i j l hs hl ih =>
  have := ih (sup_up hs).lt.2
  cases l with
  | nil => cases hl
  | cons a l => simpa using this
theorem get_app {cs ds : List PC} {i : Nat} (hi : i < cs.length) : (cs ++ ds)[i]? = cs[i]? := List.getElem?_append_left hi
theorem isI_app {cs ds : List PC} {nm : List UInt8} {j : Nat} (h : ix cs nm = some j) : isI (cs ++ ds) nm = isI cs nm := by
 unfold isI
 rw [ix_app h, h]
 simp only
 rw [get_app (ix_lt h)]
theorem kind_app {cs ds : List PC} {c : PC} (h : kindE cs c = 0) : kindE (cs ++ ds) c = 0 := by
 obtain ⟨⟨s, hs⟩, h2, h3, h4, h5, h6, h7, h8⟩ := kindE_zero h
 unfold kindE
 rw [if_neg, if_neg]
 ·rintro (e | e | e | e | ⟨e, f⟩ | ⟨nm, hnm, e⟩)
  ·rw [isI_app hs, h3] at e; cases e
  ·exact h4 e
  ·exact h5 e
  ·exact h6 e
  ·exact f (h7 e)
  ·obtain ⟨j, hj⟩ := h2 nm hnm
   rw [isI_app hj, h8 nm hnm] at e; cases e
 ·rintro (e | ⟨nm, hnm, e⟩)
  ·rw [ix_app hs] at e; cases e
  ·obtain ⟨j, hj⟩ := h2 nm hnm
   rw [ix_app hj] at e; cases e
section
variable {cs ds : List PC}
theorem up_app (G : Good cs) (hn : ∀ d ∈ ds, d.name ≠ []) {i j : Nat} (hi : i < cs.length) : Up (cs ++ ds) i j ↔ Up cs i j := by
 constructor
 ·rintro ⟨c, hc, h⟩
  rw [get_app hi] at hc
  refine ⟨c, hc, ?_⟩
  by_cases h0 : i = 0
  ·subst h0
   rw [G.obj] at hc
   cases hc
   rcases h with h | ⟨nm, hnm, _⟩
   ·exfalso
    have : ix (cs ++ ds) [] = none := ix_none.2 (by
     intro c hc
     rcases List.mem_append.1 hc with hc | hc
     ·exact G.named c hc
     ·exact hn c hc)
    rw [this] at h; cases h
   ·cases hnm
  ·obtain ⟨⟨s, hs⟩, h2, _⟩ := kindE_zero (G.kind i c hc h0)
   rcases h with h | ⟨nm, hnm, h⟩
   ·rw [ix_app hs] at h; exact .inl (hs.trans h)
   ·obtain ⟨k, hk⟩ := h2 nm hnm
    rw [ix_app hk] at h; exact .inr ⟨nm, hnm, hk.trans h⟩
 ·rintro ⟨c, hc, h⟩
  refine ⟨c, by rw [get_app hi]; exact hc, ?_⟩
  rcases h with h | ⟨nm, hnm, h⟩
  ·exact .inl (ix_app h)
  ·exact .inr ⟨nm, hnm, ix_app h⟩
theorem abv_app (G : Good cs) (hn : ∀ d ∈ ds, d.name ≠ []) {i j : Nat} (hi : i < cs.length) : Abv (cs ++ ds) i j ↔ Abv cs i j := by
 constructor
 ·intro h
  induction h with
  | one h => exact .one ((up_app G hn hi).1 h)
  | more h _ ih =>
   have := (up_app G hn hi).1 h
   exact .more this (ih this.lt.2)
 ·intro h
  induction h with
  | one h => exact .one ((up_app G hn hi).2 h)
  | more h _ ih => exact .more ((up_app G hn hi).2 h) (ih h.lt.2)
theorem sup_app (G : Good cs) (hn : ∀ d ∈ ds, d.name ≠ []) {i : Nat} (hi : i < cs.length) : sup (cs ++ ds) i = sup cs i := by
 have hc : cs[i]? = some cs[i] := by simp [hi]
 unfold sup
 rw [get_app hi, hc]
 simp only
 by_cases h0 : i = 0
 ·subst h0
  have e := G.obj
  rw [hc] at e
  have e : cs[0] = _ := Option.some.inj e
  rw [e]
  simp only
  rw [G.ix_nil]
  exact ix_none.2 (by
   intro c hc
   rcases List.mem_append.1 hc with hc | hc
   ·exact G.named c hc
   ·exact hn c hc)
 ·obtain ⟨⟨s, hs⟩, _⟩ := kindE_zero (G.kind i _ hc h0)
  rw [hs, ix_app hs]
end
/-- A file: the error that it has, and what it says of its class. -/
abbrev FC := Nat × PC
/-- The files' classes behind the table; or the first error, and where. -/
def addP : List PC → List FC → Nat → Sum (List PC) (Nat × Nat)
 | cs, [], _ => .inl cs
 | cs, f :: fs, i => if f.1 ≠ 0 then .inr (f.1, i) else if ix cs f.2.name ≠ none then .inr (15, i) else addP (cs ++ [f.2]) fs (i + 1)
/-- The first of some for which a number is not 0. -/
def firstE (E : PC → Nat) : List PC → Nat → Option (Nat × Nat)
 | [], _ => none
 | c :: l, i => if E c ≠ 0 then some (E c, i) else firstE E l (i + 1)
/-- The first that is above itself: of n from k on. -/
noncomputable def firstR (cs : List PC) (k : Nat) : Nat → Nat → Option Nat
 | 0, _ => none
 | n + 1, i => if Abv cs (k + i) (k + i) then some i else firstR cs k n (i + 1)
/-- What becomes of files: a table, or an error and where. -/
noncomputable def openP (cs : List PC) (fs : List FC) : Sum (List PC) (Nat × Nat) :=
 if 64 < fs.length then .inr (3, 0) else
 match addP cs fs 0 with
 | .inr e => .inr e
 | .inl ds => match firstE (kindE ds) (ds.drop cs.length) 0 with
  | some e => .inr e
  | none => match firstR ds cs.length fs.length 0 with
   | some i => .inr (16, i)
   | none => .inl ds
theorem addP_ok : ∀ (fs : List FC) (cs : List PC) (i : Nat) (ds : List PC), addP cs fs i = .inl ds → Distinct cs → ds = cs ++ fs.map (·.2) ∧ Distinct ds ∧ (∀ f ∈ fs, f.1 = 0)
 | [], cs, i, ds, h, hd => by cases h; simp [hd]
 | f :: fs, cs, i, ds, h, hd => by
  unfold addP at h
  split at h
  ·cases h
  rename_i h1
  split at h
  ·cases h
  rename_i h2
  have h1 : f.1 = 0 := by omega
  have h2 : ix cs f.2.name = none := by
   cases hx : ix cs f.2.name with
   | none => rfl
   | some j => exact absurd (by simp [hx]) h2
  obtain ⟨r1, r2, r3⟩ := addP_ok fs _ _ _ h (distinct_snoc hd h2)
  refine ⟨by simp [r1], r2, ?_⟩
  intro g hg
  rcases List.mem_cons.1 hg with rfl | hg
  ·exact h1
  ·exact r3 g hg
theorem firstE_none (E : PC → Nat) : ∀ (l : List PC) (i : Nat), firstE E l i = none → ∀ c ∈ l, E c = 0
 | [], _, _, c, hc => by cases hc
 | d :: l, i, h, c, hc => by
  unfold firstE at h
  split at h
  ·cases h
  rename_i h1
  rcases List.mem_cons.1 hc with rfl | hc
  ·omega
  ·exact firstE_none E l _ h c hc
theorem firstR_none (cs : List PC) (k : Nat) : ∀ (n i : Nat), firstR cs k n i = none → ∀ j, i ≤ j → j < i + n → ¬ Abv cs (k + j) (k + j)
 | 0, i, _, j, h1, h2 => by omega
 | n + 1, i, h, j, h1, h2 => by
  unfold firstR at h
  split at h
  ·cases h
  rename_i h3
  by_cases hj : j = i
  ·subst hj; exact h3
  ·exact firstR_none cs k n (i + 1) h j (by omega) (by omega)
/-- A table that was opened from a good one is good, and begins with it. -/
theorem openP_good {cs : List PC} (G : Good cs) {fs : List FC} (hn : ∀ f ∈ fs, f.1 = 0 → f.2.name ≠ []) {ds : List PC} (h : openP cs fs = .inl ds) :
  Good ds ∧ ds = cs ++ fs.map (·.2) ∧ fs.length ≤ 64 := by
 unfold openP at h
 split at h
 ·cases h
 rename_i h64
 split at h
 ·cases h
 rename_i es hadd
 split at h
 ·cases h
 rename_i hE
 split at h
 ·cases h
 rename_i hR
 cases h
 obtain ⟨rfl, hd, h0⟩ := addP_ok _ _ _ _ hadd G.apart
 have hnm : ∀ d ∈ fs.map (·.2), d.name ≠ [] := by
  intro d hd
  obtain ⟨f, hf, rfl⟩ := List.mem_map.1 hd
  exact hn f hf (h0 f hf)
 refine ⟨⟨hd, ?_, ?_, ?_, ?_⟩, rfl, by omega⟩
 ·intro c hc
  rcases List.mem_append.1 hc with hc | hc
  ·exact G.named c hc
  ·exact hnm c hc
 ·rw [get_app G.pos]; exact G.obj
 ·intro i c hc hi
  by_cases hl : i < cs.length
  ·rw [get_app hl] at hc
   exact kind_app (G.kind i c hc hi)
  ·refine firstE_none _ _ _ hE c ?_
   rw [List.drop_left]
   rw [List.getElem?_append_right (by omega)] at hc
   exact List.mem_of_getElem? hc
 ·intro i hi
  by_cases hl : i < cs.length
  ·exact G.acyc i ((abv_app G hnm hl).1 hi)
  ·have hlt := hi.lt.1
   simp at hlt
   have := firstR_none _ _ _ _ hR (i - cs.length) (by omega) (by omega)
   rw [show cs.length + (i - cs.length) = i by omega] at this
   exact this hi
/-- Whether a class is an interface. -/
def isJ (cs : List PC) (i : Nat) : Bool := match cs[i]? with
 | none => false
 | some c => c.iface
theorem isI_ix {cs : List PC} {nm : List UInt8} {j : Nat} (h : ix cs nm = some j) : isI cs nm = isJ cs j := by simp [isI, isJ, h]
/-- One is in the chain of another one. -/
inductive Sle (cs : List PC) : Nat → Nat → Prop
 | refl {i : Nat} : Sle cs i i
 | step {i j k : Nat} : sup cs i = some j → Sle cs j k → Sle cs i k
theorem Sle.trans {cs : List PC} {i j k : Nat} (h : Sle cs i j) (h2 : Sle cs j k) : Sle cs i k := by
 induction h with
 | refl => exact h2
 | step h _ ih => exact .step h (ih h2)
theorem Sle.abv {cs : List PC} {i j : Nat} (h : Sle cs i j) : i = j ∨ Abv cs i j := by
 induction h with
 | refl => exact .inl rfl
 | step h _ ih =>
  rcases ih with rfl | ih
  ·exact .inr (.one (sup_up h))
  ·exact .inr (.more (sup_up h) ih)
theorem Ch.sle {cs : List PC} {i : Nat} {l : List Nat} (h : Ch cs i l) {x : Nat} : x ∈ l ↔ Sle cs i x := by
 induction h with
 | @last i h =>
  constructor
  ·intro hx; rw [List.mem_singleton.1 hx]; exact .refl
  ·intro hx
   cases hx with
   | refl => simp
   | step h2 _ => rw [h] at h2; cases h2
 | @next i j l hs _ ih =>
  constructor
  ·intro hx
   rcases List.mem_cons.1 hx with rfl | hx
   ·exact .refl
   ·exact .step hs (ih.1 hx)
  ·intro hx
   cases hx with
   | refl => simp
   | step h2 h3 => rw [hs] at h2; cases h2; exact List.mem_cons_of_mem _ (ih.2 h3)
section
variable {cs : List PC}
theorem Good.sle_anti (G : Good cs) {i j : Nat} (h : Sle cs i j) (h2 : Sle cs j i) : i = j := by
 rcases h.abv with h | h
 ·exact h
 ·rcases h2.abv with h2 | h2
  ·exact h2.symm
  ·exact absurd (h.trans h2) (G.acyc i)
theorem Good.ifc (G : Good cs) {i : Nat} {c : PC} (hc : cs[i]? = some c) (h : c.iface = true) : sup cs i = some 0 := by
 have h0 : i ≠ 0 := by
  rintro rfl
  rw [G.obj] at hc; cases hc; cases h
 obtain ⟨_, _, _, _, _, _, h7, _⟩ := kindE_zero (G.kind i c hc h0)
 simp [sup, hc, h7 h, G.ix_obj]
/-- The Super of a class is no interface. -/
theorem Good.sup_not (G : Good cs) {i j : Nat} (h : sup cs i = some j) : isJ cs j = false := by
 unfold sup at h
 cases hc : cs[i]? with
 | none => simp [hc] at h
 | some c =>
  simp only [hc] at h
  have h0 : i ≠ 0 := by
   rintro rfl
   rw [G.obj] at hc; cases hc; rw [G.ix_nil] at h; cases h
  obtain ⟨_, _, h3, _⟩ := kindE_zero (G.kind i c hc h0)
  rw [isI_ix h] at h3
  exact h3
theorem Good.up_cases (G : Good cs) {i j : Nat} (h : Up cs i j) : sup cs i = some j ∨ isJ cs j = true := by
 obtain ⟨c, hc, h⟩ := h
 rcases h with h | ⟨nm, hnm, h⟩
 ·exact .inl (by simp [sup, hc, h])
 ·right
  have h0 : i ≠ 0 := by
   rintro rfl
   rw [G.obj] at hc; cases hc; cases hnm
  obtain ⟨_, _, _, _, _, _, _, h8⟩ := kindE_zero (G.kind i c hc h0)
  rw [← isI_ix h]; exact h8 nm hnm
/-- What is above an interface is one, or Object. -/
theorem Good.above_ifc (G : Good cs) {i j : Nat} (h : Abv cs i j) (hi : isJ cs i = true) : j = 0 ∨ isJ cs j = true := by
 have one : ∀ {i j : Nat}, Up cs i j → isJ cs i = true → j = 0 ∨ isJ cs j = true := by
  intro i j h hi
  rcases G.up_cases h with h2 | h2
  ·left
   unfold isJ at hi
   cases hc : cs[i]? with
   | none => simp [hc] at hi
   | some c =>
    simp only [hc] at hi
    rw [G.ifc hc hi] at h2
    exact (Option.some.inj h2).symm
  ·exact .inr h2
 induction h with
 | one h => exact one h hi
 | more h h2 ih =>
  rcases one h hi with rfl | h3
  ·exact absurd h2 G.no_abv_zero
  ·exact ih h3
/-- What is above a class and no interface is in its chain. -/
theorem Good.above_class (G : Good cs) {i j : Nat} (h : Abv cs i j) (hj : isJ cs j = false) : j = 0 ∨ Sle cs i j := by
 induction h with
 | one h =>
  rcases G.up_cases h with h2 | h2
  ·exact .inr (.step h2 .refl)
  ·rw [h2] at hj; cases hj
 | more h h2 ih =>
  rcases G.up_cases h with h3 | h3
  ·rcases ih hj with h4 | h4
   ·exact .inl h4
   ·exact .inr (.step h3 h4)
  ·rcases G.above_ifc h2 h3 with h4 | h4
   ·exact .inl h4
   ·rw [h4] at hj; cases hj
/-- Object is in each chain. -/
theorem Good.sle_zero (G : Good cs) {i : Nat} (hi : i < cs.length) : Sle cs i 0 := by
 obtain ⟨l, hl⟩ := ch_some G.acyc _ i (Nat.le_refl _)
 have := hl.last_zero G hi
 exact hl.sle.1 (List.mem_of_getLast? this)
/-- Each class in the chain of one that is no interface is none. -/
theorem Good.sle_not (G : Good cs) {i j : Nat} (h : Sle cs i j) (hi : isJ cs i = false) : isJ cs j = false := by
 induction h with
 | refl => exact hi
 | step h _ ih => exact ih (G.sup_not h)
/-- Of an interface the chain is itself and Object. -/
theorem Good.sle_ifc (G : Good cs) {i j : Nat} (h : Sle cs i j) (hi : isJ cs i = true) : j = i ∨ j = 0 := by
 cases h with
 | refl => exact .inl rfl
 | step h h2 =>
  right
  unfold isJ at hi
  cases hc : cs[i]? with
  | none => simp [hc] at hi
  | some c =>
   simp only [hc] at hi
   rw [G.ifc hc hi] at h
   cases h
   cases h2 with
   | refl => rfl
   | step h3 _ => rw [(G.sup_none G.pos).2 rfl] at h3; cases h3
/-- The first in a's chain that is in b's: the least that is in both. -/
theorem Good.meet (G : Good cs) {i j : Nat} (hi : i < cs.length) (hj : j < cs.length) : ∃ k, k < cs.length ∧ Sle cs i k ∧ Sle cs j k ∧ ∀ m, Sle cs i m → Sle cs j m → Sle cs k m := by
 obtain ⟨l, hl⟩ := ch_some G.acyc _ i (Nat.le_refl _)
 induction hl with
 | @last i h =>
  have := (G.sup_none hi).1 h
  subst this
  exact ⟨0, hi, .refl, G.sle_zero hj, fun m h1 _ => h1⟩
 | @next i i2 l hs _ ih =>
  by_cases h : Sle cs j i
  ·exact ⟨i, hi, .refl, h, fun m h1 _ => h1⟩
  ·obtain ⟨k, k0, k1, k2, k3⟩ := ih (sup_up hs).lt.2
   refine ⟨k, k0, .step hs k1, k2, fun m h1 h2 => ?_⟩
   cases h1 with
   | refl => exact absurd h2 h
   | step h4 h5 => rw [hs] at h4; cases h4; exact k3 m h5 h2
end
abbrev Nd := Nat × Option Nat
/-- An order of classes, lifted to types. -/
def lift (R : Nat → Nat → Prop) : Nat → Option Nat → Nat → Option Nat → Prop
 | 0, none, 0, none => True
 | 0, some i, 0, some j => R i j
 | 0, _, 0, _ => False
 | 0, _, _ + 1, _ => False
 | _ + 1, _, 0, v => v = some 0
 | n + 1, u, m + 1, v => lift R n u m v
def Lt (R : Nat → Nat → Prop) (a b : Nd) : Prop := lift R a.1 a.2 b.1 b.2
/-- A type whose class is there. -/
def Vn (cs : List PC) (u : Option Nat) : Prop := ∀ i, u = some i → i < cs.length
theorem lift_refl {R : Nat → Nat → Prop} (h : ∀ i, R i i) : ∀ (n : Nat) (u : Option Nat), lift R n u n u
 | 0, none => trivial
 | 0, some i => h i
 | n + 1, u => lift_refl h n u
theorem lift_mono {R S : Nat → Nat → Prop} (h : ∀ i j, R i j → S i j) : ∀ (n : Nat) (u : Option Nat) (m : Nat) (v : Option Nat), lift R n u m v → lift S n u m v
 | 0, none, 0, none, _ => trivial
 | 0, some i, 0, some j, hr => h _ _ hr
 | 0, none, 0, some _, hr => hr.elim
 | 0, some _, 0, none, hr => hr.elim
 | 0, none, _ + 1, _, hr => hr.elim
 | 0, some _, _ + 1, _, hr => hr.elim
 | _ + 1, _, 0, v, hr => hr
 | n + 1, u, m + 1, v, hr => lift_mono h n u m v hr
theorem lift_top {R : Nat → Nat → Prop} (h0 : ∀ j, R 0 j → j = 0) : ∀ {v w : Option Nat} , v = some 0 → ∀ {k : Nat}, lift R 0 v k w → k = 0 ∧ w = some 0
 | v, none, hv, 0, h => by subst hv; exact h.elim
 | v, some j, hv, 0, h => by subst hv; exact ⟨rfl, by rw [h0 j h]⟩
 | v, w, hv, k + 1, h => by subst hv; exact h.elim
theorem lift_trans {R : Nat → Nat → Prop} (ht : ∀ i j k, R i j → R j k → R i k) (h0 : ∀ j, R 0 j → j = 0) :
  ∀ (n : Nat) (u : Option Nat) (m : Nat) (v : Option Nat) (k : Nat) (w : Option Nat), lift R n u m v → lift R m v k w → lift R n u k w
 | 0, none, 0, none, _, _, _, h2 => h2
 | 0, some i, 0, some j, 0, some k, h1, h2 => ht _ _ _ h1 h2
 | 0, some i, 0, some j, 0, none, h1, h2 => h2.elim
 | 0, some i, 0, some j, _ + 1, _, h1, h2 => h2.elim
 | 0, none, 0, some _, _, _, h1, _ => h1.elim
 | 0, some _, 0, none, _, _, h1, _ => h1.elim
 | 0, none, _ + 1, _, _, _, h1, _ => h1.elim
 | 0, some _, _ + 1, _, _, _, h1, _ => h1.elim
 | n + 1, u, 0, v, k, w, h1, h2 => by
  obtain ⟨rfl, rfl⟩ := lift_top h0 h1 h2
  exact rfl
 | n + 1, u, m + 1, v, 0, w, h1, h2 => h2
 | n + 1, u, m + 1, v, k + 1, w, h1, h2 => lift_trans ht h0 n u m v k w h1 h2
theorem lift_anti {R : Nat → Nat → Prop} (ha : ∀ i j, R i j → R j i → i = j) : ∀ (n : Nat) (u : Option Nat) (m : Nat) (v : Option Nat), lift R n u m v → lift R m v n u → n = m ∧ u = v
 | 0, none, 0, none, _, _ => ⟨rfl, rfl⟩
 | 0, some i, 0, some j, h1, h2 => ⟨rfl, by rw [ha i j h1 h2]⟩
 | 0, none, 0, some _, h1, _ => h1.elim
 | 0, some _, 0, none, h1, _ => h1.elim
 | 0, none, _ + 1, _, h1, _ => h1.elim
 | 0, some _, _ + 1, _, h1, _ => h1.elim
 | n + 1, u, 0, v, h1, h2 => by rw [h1] at h2; exact h2.elim
 | n + 1, u, m + 1, v, h1, h2 => by
  obtain ⟨rfl, rfl⟩ := lift_anti ha n u m v h1 h2
  exact ⟨rfl, rfl⟩
/-- One above both, below all that is above both. -/
def IsMt (R : Nat → Nat → Prop) (i j k : Nat) : Prop := R i k ∧ R j k ∧ ∀ m, R i m → R j m → R k m
noncomputable def mt (cs : List PC) (i j : Nat) : Nat := if h : ∃ k, IsMt (Sle cs) i j k then Classical.choose h else 0
theorem mt_eq {cs : List PC} (G : Good cs) {i j k : Nat} (h : IsMt (Sle cs) i j k) : mt cs i j = k := by
 have he : ∃ k, IsMt (Sle cs) i j k := ⟨k, h⟩
 unfold mt
 rw [dif_pos he]
 obtain ⟨h1, h2, h3⟩ := Classical.choose_spec he
 exact G.sle_anti (h3 _ h.1 h.2.1) (h.2.2 _ h1 h2)
theorem mt_is {cs : List PC} (G : Good cs) {i j : Nat} (hi : i < cs.length) (hj : j < cs.length) : IsMt (Sle cs) i j (mt cs i j) ∧ mt cs i j < cs.length := by
 obtain ⟨k, k0, k1, k2, k3⟩ := G.meet hi hj
 have := mt_eq G ⟨k1, k2, k3⟩
 rw [this]
 exact ⟨⟨k1, k2, k3⟩, k0⟩
/-- The least type above two. -/
noncomputable def lubD (cs : List PC) : Nat → Option Nat → Nat → Option Nat → Nd
 | 0, some i, 0, some j => (0, some (mt cs i j))
 | 0, _, _, _ => (0, some 0)
 | _ + 1, _, 0, _ => (0, some 0)
 | n + 1, u, m + 1, v =>
  if n = m ∧ u = v then (n + 1, u)
  else if (n = 0 ∧ u = none) ∨ (m = 0 ∧ v = none) then (0, some 0)
  else ((lubD cs n u m v).1 + 1, (lubD cs n u m v).2)
def isInt (a : Nd) : Prop := a.1 = 0 ∧ a.2 = none
theorem lub_is {cs : List PC} (G : Good cs) : ∀ (n : Nat) (u : Option Nat) (m : Nat) (v : Option Nat), Vn cs u → Vn cs v → ¬ isInt (n, u) → ¬ isInt (m, v) →
  lift (Sle cs) n u (lubD cs n u m v).1 (lubD cs n u m v).2 ∧ lift (Sle cs) m v (lubD cs n u m v).1 (lubD cs n u m v).2 ∧
  (∀ (k : Nat) (w : Option Nat), lift (Sle cs) n u k w → lift (Sle cs) m v k w → lift (Sle cs) (lubD cs n u m v).1 (lubD cs n u m v).2 k w) ∧ Vn cs (lubD cs n u m v).2 ∧ ¬ isInt (lubD cs n u m v)
 | 0, none, _, _, _, _, h, _ => absurd ⟨rfl, rfl⟩ h
 | _ + 1, _, 0, none, _, _, _, h => absurd ⟨rfl, rfl⟩ h
 | 0, some _, 0, none, _, _, _, h => absurd ⟨rfl, rfl⟩ h
 | 0, some i, 0, some j, hu, hv, _, _ => by
  obtain ⟨⟨h1, h2, h3⟩, h4⟩ := mt_is G (hu i rfl) (hv j rfl)
  refine ⟨h1, h2, ?_, ?_, ?_⟩
  ·intro k w
   cases k with
   | zero => cases w with
    | none => intro h; exact h.elim
    | some m => exact h3 m
   | succ k => intro h; exact h.elim
  ·intro i hi
   cases hi
   exact h4
  ·rintro ⟨_, h⟩; cases h
 | 0, some i, m + 1, v, hu, hv, _, _ => by
  refine ⟨G.sle_zero (hu i rfl), rfl, ?_, ?_, ?_⟩
  ·intro k w h1 h2
   cases k with
   | zero => cases (show w = some 0 from h2); exact Sle.refl
   | succ k => exact h1.elim
  ·intro i hi; cases hi; exact G.pos
  ·rintro ⟨_, h⟩; cases h
 | n + 1, u, 0, some j, hu, hv, _, _ => by
  refine ⟨rfl, G.sle_zero (hv j rfl), ?_, ?_, ?_⟩
  ·intro k w h1 h2
   cases k with
   | zero => cases (show w = some 0 from h1); exact Sle.refl
   | succ k => exact h2.elim
  ·intro i hi; cases hi; exact G.pos
  ·rintro ⟨_, h⟩; cases h
 | n + 1, u, m + 1, v, hu, hv, _, _ => by
  unfold lubD
  by_cases e : n = m ∧ u = v
  ·rw [if_pos e]
   obtain ⟨rfl, rfl⟩ := e
   exact ⟨lift_refl (fun _ => .refl) (n + 1) u, lift_refl (fun _ => .refl) (n + 1) u, fun k w h _ => h, hu, fun h => by cases h.1⟩
  ·rw [if_neg e]
   by_cases e2 : (n = 0 ∧ u = none) ∨ (m = 0 ∧ v = none)
   ·rw [if_pos e2]
    refine ⟨rfl, rfl, ?_, ?_, ?_⟩
    ·intro k w h1 h2
     cases k with
     | zero => cases (show w = some 0 from h1); exact Sle.refl
     | succ k =>
      exfalso
      have h1 : lift (Sle cs) n u k w := h1
      have h2 : lift (Sle cs) m v k w := h2
      rcases e2 with ⟨rfl, rfl⟩ | ⟨rfl, rfl⟩
      ·cases k with
       | succ k => exact h1
       | zero => cases w with
        | some w => exact h1
        | none => cases m with
         | succ m => cases h2
         | zero => cases v with
          | none => exact e ⟨rfl, rfl⟩
          | some v => exact h2
      ·cases k with
       | succ k => exact h2
       | zero => cases w with
        | some w => exact h2
        | none => cases n with
         | succ m => cases h1
         | zero => cases u with
          | none => exact e ⟨rfl, rfl⟩
          | some v => exact h1
    ·intro i hi; cases hi; exact G.pos
    ·rintro ⟨_, h⟩; cases h
   ·rw [if_neg e2]
    obtain ⟨r1, r2, r3, r4, r5⟩ := lub_is G n u m v hu hv (fun h => e2 (.inl h)) (fun h => e2 (.inr h))
    refine ⟨r1, r2, ?_, r4, fun h => by cases h.1⟩
    intro k w h1 h2
    cases k with
    | zero => exact h1
    | succ k => exact r3 k w h1 h2
/-- How deep the least above two is. -/
theorem lub_dims (cs : List PC) : ∀ (n : Nat) (u : Option Nat) (m : Nat) (v : Option Nat), (lubD cs n u m v).1 ≤ n
 | 0, none, 0, none => Nat.le_refl _
 | 0, none, 0, some _ => Nat.le_refl _
 | 0, some _, 0, none => Nat.le_refl _
 | 0, some _, 0, some _ => Nat.le_refl _
 | 0, none, _ + 1, _ => Nat.le_refl _
 | 0, some _, _ + 1, _ => Nat.le_refl _
 | _ + 1, _, 0, _ => Nat.zero_le _
 | n + 1, u, m + 1, v => by
  unfold lubD
  have := lub_dims cs n u m v
  split
  ·exact Nat.le_refl _
  ·split
   ·exact Nat.zero_le _
   ·simp only; omega
section
variable {cs : List PC}
theorem Good.sle_top (G : Good cs) {j : Nat} (h : Sle cs 0 j) : j = 0 := by
 cases h with
 | refl => rfl
 | step h _ => rw [(G.sup_none G.pos).2 rfl] at h; cases h
theorem lub_unique (G : Good cs) {a r s : Nd} {b : Nd} (h1 : lift (Sle cs) a.1 a.2 r.1 r.2) (h2 : lift (Sle cs) b.1 b.2 r.1 r.2) (h3 : ∀ (k : Nat) (w : Option Nat), lift (Sle cs) a.1 a.2 k w → lift (Sle cs) b.1 b.2 k w → lift (Sle cs) r.1 r.2 k w)
  (g1 : lift (Sle cs) a.1 a.2 s.1 s.2) (g2 : lift (Sle cs) b.1 b.2 s.1 s.2) (g3 : ∀ (k : Nat) (w : Option Nat), lift (Sle cs) a.1 a.2 k w → lift (Sle cs) b.1 b.2 k w → lift (Sle cs) s.1 s.2 k w) : r = s := by
 obtain ⟨e1, e2⟩ := lift_anti (fun _ _ => G.sle_anti) _ _ _ _ (h3 _ _ g1 g2) (g3 _ _ h1 h2)
 exact Prod.ext e1 e2
theorem lub_comm (G : Good cs) {n m : Nat} {u v : Option Nat} (hu : Vn cs u) (hv : Vn cs v) (h : ¬ isInt (n, u)) (h2 : ¬ isInt (m, v)) : lubD cs n u m v = lubD cs m v n u := by
 obtain ⟨r1, r2, r3, _⟩ := lub_is G n u m v hu hv h h2
 obtain ⟨s1, s2, s3, _⟩ := lub_is G m v n u hv hu h2 h
 exact lub_unique G (a := (n, u)) (b := (m, v)) r1 r2 r3 s2 s1 (fun k w x y => s3 k w y x)
theorem lub_assoc (G : Good cs) {n m k : Nat} {u v w : Option Nat} (hu : Vn cs u) (hv : Vn cs v) (hw : Vn cs w) (h : ¬ isInt (n, u)) (h2 : ¬ isInt (m, v)) (h3 : ¬ isInt (k, w)) :
  lubD cs (lubD cs n u m v).1 (lubD cs n u m v).2 k w = lubD cs n u (lubD cs m v k w).1 (lubD cs m v k w).2 := by
 obtain ⟨r1, r2, r3, r4, r5⟩ := lub_is G n u m v hu hv h h2
 obtain ⟨s1, s2, s3, s4, s5⟩ := lub_is G m v k w hv hw h2 h3
 obtain ⟨x1, x2, x3, _⟩ := lub_is G _ _ k w r4 hw r5 h3
 obtain ⟨y1, y2, y3, _⟩ := lub_is G n u _ _ hu s4 h s5
 have tr := lift_trans (R := Sle cs) (fun i j k a b => a.trans b) (fun j h => G.sle_top h)
 obtain ⟨e1, e2⟩ := lift_anti (R := Sle cs) (fun _ _ => G.sle_anti) _ _ _ _
  (x3 _ _ (r3 _ _ y1 (tr _ _ _ _ _ _ s1 y2)) (tr _ _ _ _ _ _ s2 y2))
  (y3 _ _ (tr _ _ _ _ _ _ r1 x1) (s3 _ _ (tr _ _ _ _ _ _ r2 x1) x2))
 exact Prod.ext e1 e2
end
/-- Below, of classes. -/
def Bel (cs : List PC) (i j : Nat) : Prop := i = j ∨ Abv cs i j
theorem Bel.trans {cs : List PC} {i j k : Nat} (h : Bel cs i j) (h2 : Bel cs j k) : Bel cs i k := by
 rcases h with rfl | h
 ·exact h2
 ·rcases h2 with rfl | h2
  ·exact .inr h
  ·exact .inr (h.trans h2)
theorem bel_top {cs : List PC} (G : Good cs) {j : Nat} (h : Bel cs 0 j) : j = 0 := by
 rcases h with h | h
 ·exact h.symm
 ·exact absurd h G.no_abv_zero
section
variable {cs : List PC}
/-- Of two, one of which is an interface, the least above both is Object. -/
theorem mt_ifc (G : Good cs) {i j : Nat} (hi : i < cs.length) (hj : j < cs.length) (hne : i ≠ j) (h : isJ cs i = true ∨ isJ cs j = true) : mt cs i j = 0 := by
 have one : ∀ {i j : Nat}, i ≠ j → isJ cs i = true → ¬ Sle cs j i := by
  intro i j hne hi h
  cases h with
  | refl => exact hne rfl
  | step h h2 =>
   have := G.sle_not h2 (G.sup_not h)
   rw [this] at hi; cases hi
 apply mt_eq G
 refine ⟨G.sle_zero hi, G.sle_zero hj, fun m h1 h2 => ?_⟩
 rcases h with h | h
 ·rcases G.sle_ifc h1 h with rfl | rfl
  ·exact absurd h2 (one hne h)
  ·exact .refl
 ·rcases G.sle_ifc h2 h with rfl | rfl
  ·exact absurd h1 (one (Ne.symm hne) h)
  ·exact .refl
/-- How far the search has come: what is in both chains is in that of a. -/
def Come (cs : List PC) (i j a : Nat) : Prop := a < cs.length ∧ Sle cs i a ∧ ∀ m, Sle cs i m → Sle cs j m → Sle cs a m
theorem come_begin (G : Good cs) {i j : Nat} (hi : i < cs.length) : Come cs i j i := ⟨hi, .refl, fun _ h _ => h⟩
theorem come_end (G : Good cs) {i j a : Nat} (hI : isJ cs i = false) (h : Come cs i j a) (hb : a = j ∨ Abv cs j a) : mt cs i j = a := by
 apply mt_eq G
 refine ⟨h.2.1, ?_, h.2.2⟩
 rcases hb with rfl | hb
 ·exact .refl
 ·rcases G.above_class hb (G.sle_not h.2.1 hI) with rfl | h2
  ·exact G.sle_zero hb.lt.1
  ·exact h2
theorem come_on (G : Good cs) {i j a : Nat} (hj : j < cs.length) (h : Come cs i j a) (hb : ¬ (a = j ∨ Abv cs j a)) : ∃ b, sup cs a = some b ∧ Come cs i j b ∧ rank cs b < rank cs a := by
 cases hs : sup cs a with
 | none =>
  have h0 := (G.sup_none h.1).1 hs
  subst h0
  exfalso
  apply hb
  rcases (G.sle_zero hj).abv with h2 | h2
  ·exact .inl h2.symm
  ·exact .inr h2
 | some b =>
  refine ⟨b, rfl, ⟨(sup_up hs).lt.2, h.2.1.trans (.step hs .refl), fun m h1 h2 => ?_⟩, rank_lt G.acyc (sup_up hs)⟩
  have := h.2.2 m h1 h2
  cases this with
  | refl =>
   exfalso
   apply hb
   rcases h2.abv with h3 | h3
   ·exact .inl h3.symm
   ·exact .inr h3
  | step h3 h4 => rw [hs] at h3; cases h3; exact h4
end
/-- A type: its dimensions, its name. -/
abbrev TY := Int × List UInt8
def hasT (cs : List PC) (a : TY) : Prop := 0 ≤ a.1 ∧ a.1 ≤ 4 ∧ (a.2 = [] ∨ ix cs a.2 ≠ none)
def nd (cs : List PC) (a : TY) : Nd := (a.1.toNat, ix cs a.2)
/-- The type of a node. -/
def tyOf (cs : List PC) (a : Nd) : TY := (a.1, match a.2 with
 | none => []
 | some i => match cs[i]? with
  | none => []
  | some c => c.name)
/-- Whether one is below another one. -/
def SubT (cs : List PC) (a b : TY) : Prop := hasT cs a ∧ hasT cs b ∧ Lt (Bel cs) (nd cs a) (nd cs b)
/-- The least above two. -/
noncomputable def lubT (cs : List PC) (a b : TY) : TY := tyOf cs (lubD cs (nd cs a).1 (nd cs a).2 (nd cs b).1 (nd cs b).2)
def intT : TY := (0, [])
def objT : TY := (0, objB)
section
variable {cs : List PC}
theorem hasT_ix (G : Good cs) {a : TY} (h : hasT cs a) : ix cs a.2 = none ↔ a.2 = [] := by
 constructor
 ·intro h2
  rcases h.2.2 with h3 | h3
  ·exact h3
  ·exact absurd h2 h3
 ·intro h2; rw [h2]; exact G.ix_nil
theorem nd_inj (G : Good cs) {a b : TY} (ha : hasT cs a) (hb : hasT cs b) : nd cs a = nd cs b ↔ a = b := by
 constructor
 ·intro h
  have h1 : a.1.toNat = b.1.toNat := congrArg Prod.fst h
  have h2 : ix cs a.2 = ix cs b.2 := congrArg Prod.snd h
  have h3 := ha.1
  have h4 := hb.1
  refine Prod.ext (by omega) ?_
  cases hx : ix cs a.2 with
  | none => rw [(hasT_ix G ha).1 hx, (hasT_ix G hb).1 (h2 ▸ hx)]
  | some i =>
   obtain ⟨c, hc, e⟩ := ix_some hx
   obtain ⟨d, hd, f⟩ := ix_some (h2 ▸ hx)
   rw [hc] at hd; cases hd
   exact e.symm.trans f
 ·rintro rfl; rfl
theorem nd_int (G : Good cs) {a : TY} (ha : hasT cs a) : isInt (nd cs a) ↔ a = intT := by
 constructor
 ·rintro ⟨h1, h2⟩
  have h3 := ha.1
  have h1 : a.1.toNat = 0 := h1
  exact Prod.ext (show a.1 = 0 by omega) ((hasT_ix G ha).1 h2)
 ·rintro rfl
  exact ⟨rfl, G.ix_nil⟩
theorem vn_ix (G : Good cs) {a : TY} : Vn cs (nd cs a).2 := fun i h => ix_lt h
theorem sub_no (G : Good cs) {a b : TY} (h : ¬ (hasT cs a ∧ hasT cs b)) : ¬ SubT cs a b := fun h2 => h ⟨h2.1, h2.2.1⟩
theorem sub_eq (G : Good cs) {a : TY} (ha : hasT cs a) : SubT cs a a := ⟨ha, ha, lift_refl (fun _ => .inl rfl) _ _⟩
theorem lift_int (G : Good cs) {R : Nat → Nat → Prop} : ∀ {n : Nat} {u : Option Nat} {m : Nat} {v : Option Nat}, lift R n u m v → isInt (n, u) ∨ isInt (m, v) → n = m ∧ u = v
 | 0, none, 0, none, _, _ => ⟨rfl, rfl⟩
 | 0, some _, 0, some _, _, h => by rcases h with ⟨_, h⟩ | ⟨_, h⟩ <;> cases h
 | 0, none, 0, some _, h, _ => h.elim
 | 0, some _, 0, none, h, _ => h.elim
 | 0, none, _ + 1, _, h, _ => h.elim
 | 0, some _, _ + 1, _, h, _ => h.elim
 | _ + 1, _, 0, v, h, h2 => by
  cases (show v = some 0 from h)
  rcases h2 with ⟨h, _⟩ | ⟨_, h⟩ <;> cases h
 | _ + 1, _, _ + 1, _, _, h2 => by rcases h2 with ⟨h, _⟩ | ⟨h, _⟩ <;> cases h
theorem sub_int (G : Good cs) {a b : TY} (ha : hasT cs a) (hb : hasT cs b) (hne : a ≠ b) (h : a = intT ∨ b = intT) : ¬ SubT cs a b := by
 rintro ⟨_, _, h2⟩
 apply hne
 have : isInt (nd cs a) ∨ isInt (nd cs b) := by
  rcases h with h | h
  ·exact .inl ((nd_int G ha).2 h)
  ·exact .inr ((nd_int G hb).2 h)
 obtain ⟨e1, e2⟩ := lift_int G h2 this
 exact (nd_inj G ha hb).1 (Prod.ext e1 e2)
theorem hasT_obj (G : Good cs) : hasT cs objT := ⟨Int.le_refl _, by decide, .inr (by show ix cs objB ≠ none; rw [G.ix_obj]; simp)⟩
theorem sub_obj (G : Good cs) {a : TY} (ha : hasT cs a) (hi : a ≠ intT) : SubT cs a objT := by
 refine ⟨ha, hasT_obj G, ?_⟩
 have hn : ¬ isInt (nd cs a) := fun h => hi ((nd_int G ha).1 h)
 have e : nd cs objT = (0, some 0) := by simp [nd, objT, G.ix_obj]
 rw [e]
 have hv := vn_ix G (a := a)
 generalize nd cs a = x at hn hv
 obtain ⟨n, u⟩ := x
 cases n with
 | succ n => exact rfl
 | zero => cases u with
  | none => exact absurd ⟨rfl, rfl⟩ hn
  | some i =>
   rcases (G.sle_zero (hv i rfl)).abv with h | h
   ·exact .inl h
   ·exact .inr h
theorem sub_elem (G : Good cs) {a b : TY} (ha : hasT cs a) (hb : hasT cs b) (h1 : 0 < a.1) (h2 : 0 < b.1) : SubT cs a b ↔ SubT cs (a.1 - 1, a.2) (b.1 - 1, b.2) := by
 have e1 : a.1.toNat = (a.1 - 1).toNat + 1 := by omega
 have e2 : b.1.toNat = (b.1 - 1).toNat + 1 := by omega
 have ha' : hasT cs (a.1 - 1, a.2) := ⟨by show 0 ≤ a.1 - 1; omega, by have := ha.2.1; show a.1 - 1 ≤ 4; omega, ha.2.2⟩
 have hb' : hasT cs (b.1 - 1, b.2) := ⟨by show 0 ≤ b.1 - 1; omega, by have := hb.2.1; show b.1 - 1 ≤ 4; omega, hb.2.2⟩
 have e : Lt (Bel cs) (nd cs a) (nd cs b) ↔ Lt (Bel cs) (nd cs (a.1 - 1, a.2)) (nd cs (b.1 - 1, b.2)) := by
  unfold Lt nd
  rw [e1, e2]
  exact Iff.rfl
 exact ⟨fun h => ⟨ha', hb', e.1 h.2.2⟩, fun h => ⟨ha, hb, e.2 h.2.2⟩⟩
theorem sub_class (G : Good cs) {a b : TY} (ha : hasT cs a) (hb : hasT cs b) (h1 : a.1 = 0) (h2 : b.1 = 0) (hne : a ≠ b) (n1 : a ≠ intT) (n2 : b ≠ intT) : SubT cs a b ↔ ∃ i j, ix cs a.2 = some i ∧ ix cs b.2 = some j ∧ Abv cs i j := by
 have m1 : ix cs a.2 ≠ none := fun h => n1 (Prod.ext h1 ((hasT_ix G ha).1 h))
 have m2 : ix cs b.2 ≠ none := fun h => n2 (Prod.ext h2 ((hasT_ix G hb).1 h))
 cases hx : ix cs a.2 with
 | none => exact absurd hx m1
 | some i => cases hy : ix cs b.2 with
  | none => exact absurd hy m2
  | some j =>
   have e : Lt (Bel cs) (nd cs a) (nd cs b) ↔ Bel cs i j := by
    unfold Lt nd
    rw [h1, h2, hx, hy]
    exact Iff.rfl
   constructor
   ·rintro ⟨_, _, h⟩
    rcases e.1 h with rfl | h
    ·exfalso
     apply hne
     apply (nd_inj G ha hb).1
     unfold nd
     rw [h1, h2, hx, hy]
    ·exact ⟨i, j, rfl, rfl, h⟩
   ·rintro ⟨i', j', h, h', h3⟩
    cases h; cases h'
    exact ⟨ha, hb, e.2 (.inr h3)⟩
theorem sub_mixed (G : Good cs) {a b : TY} (ha : hasT cs a) (hb : hasT cs b) (hn : b ≠ objT) (h : ¬ (0 < a.1 ∧ 0 < b.1)) (h2 : ¬ (a.1 = 0 ∧ b.1 = 0)) : ¬ SubT cs a b := by
 rintro ⟨_, _, h3⟩
 have p1 := ha.1
 have p2 := hb.1
 unfold Lt nd at h3
 by_cases h0 : a.1 = 0
 ·have e : b.1.toNat = (b.1 - 1).toNat + 1 := by omega
  rw [h0, e] at h3
  cases hx : ix cs a.2 <;> rw [hx] at h3 <;> exact h3
 ·have e : a.1.toNat = (a.1 - 1).toNat + 1 := by omega
  have e2 : b.1 = 0 := by omega
  rw [e, e2] at h3
  have h3 : ix cs b.2 = some 0 := h3
  apply hn
  refine Prod.ext e2 ?_
  obtain ⟨c, hc, h4⟩ := ix_some h3
  rw [G.obj] at hc; cases hc
  exact h4.symm
end
theorem tyOf_obj {cs : List PC} (G : Good cs) : tyOf cs (0, some 0) = objT := by simp [tyOf, G.obj, objT]
theorem tyOf_nd {cs : List PC} (G : Good cs) {a : TY} (ha : hasT cs a) : tyOf cs (nd cs a) = a := by
 have h := ha.1
 cases hx : ix cs a.2 with
 | none =>
  refine Prod.ext (show ((a.1.toNat : Nat) : Int) = a.1 by omega) ?_
  simp only [tyOf, nd, hx]
  exact ((hasT_ix G ha).1 hx).symm
 | some i =>
  obtain ⟨c, hc, e⟩ := ix_some hx
  refine Prod.ext (show ((a.1.toNat : Nat) : Int) = a.1 by omega) ?_
  simp only [tyOf, nd, hx, hc]
  exact e
/-- What a node's type has, and which node it is. -/
theorem hasT_tyOf {cs : List PC} (G : Good cs) {n : Nat} {u : Option Nat} (hn : n ≤ 4) (hv : Vn cs u) : hasT cs (tyOf cs (n, u)) ∧ nd cs (tyOf cs (n, u)) = (n, u) := by
 cases u with
 | none => exact ⟨⟨Int.natCast_nonneg n, show (n : Int) ≤ 4 by omega, .inl rfl⟩, Prod.ext (by simp [tyOf, nd]) (by simp [tyOf, nd]; exact G.ix_nil)⟩
 | some i =>
  have hi := hv i rfl
  have hc : cs[i]? = some cs[i] := by simp [hi]
  have hx := ix_of G.apart hc
  refine ⟨⟨Int.natCast_nonneg n, show (n : Int) ≤ 4 by omega, .inr ?_⟩, Prod.ext (by simp [tyOf, nd]) ?_⟩
  ·simp only [tyOf, hc]; rw [hx]; simp
  ·simp only [tyOf, nd, hc]; exact hx
section
variable {cs : List PC}
/-- The node of the least above two. -/
theorem nd_lub (G : Good cs) {a b : TY} (ha : hasT cs a) (hb : hasT cs b) (na : a ≠ intT) (nb : b ≠ intT) : hasT cs (lubT cs a b) ∧ lubT cs a b ≠ intT ∧ nd cs (lubT cs a b) = lubD cs (nd cs a).1 (nd cs a).2 (nd cs b).1 (nd cs b).2 := by
 have h1 : ¬ isInt (nd cs a) := fun h => na ((nd_int G ha).1 h)
 have h2 : ¬ isInt (nd cs b) := fun h => nb ((nd_int G hb).1 h)
 obtain ⟨_, _, _, r4, r5⟩ := lub_is G (nd cs a).1 (nd cs a).2 (nd cs b).1 (nd cs b).2 (vn_ix G) (vn_ix G) h1 h2
 have hd := lub_dims cs (nd cs a).1 (nd cs a).2 (nd cs b).1 (nd cs b).2
 have h3 : (nd cs a).1 ≤ 4 := by have := ha.2.1; show a.1.toNat ≤ 4; omega
 obtain ⟨q1, q2⟩ := hasT_tyOf G (n := (lubD cs (nd cs a).1 (nd cs a).2 (nd cs b).1 (nd cs b).2).1) (by omega) r4
 refine ⟨q1, fun h => ?_, q2⟩
 have h4 := (nd_int G q1).2 h
 rw [q2] at h4
 exact r5 h4
theorem lubT_self (G : Good cs) {a : TY} (ha : hasT cs a) (na : a ≠ intT) : lubT cs a a = a := by
 have e : lubD cs (nd cs a).1 (nd cs a).2 (nd cs a).1 (nd cs a).2 = nd cs a := by
  have h1 : ¬ isInt (nd cs a) := fun h => na ((nd_int G ha).1 h)
  obtain ⟨r1, r2, r3, _⟩ := lub_is G (nd cs a).1 (nd cs a).2 (nd cs a).1 (nd cs a).2 (vn_ix G) (vn_ix G) h1 h1
  exact lub_unique G (a := nd cs a) (b := nd cs a) r1 r2 r3 (lift_refl (fun _ => .refl) _ _) (lift_refl (fun _ => .refl) _ _) (fun k w h _ => h)
 unfold lubT
 rw [e, tyOf_nd G ha]
theorem lubT_class (G : Good cs) {a b : TY} {i j : Nat} (h1 : a.1 = 0) (h2 : b.1 = 0) (hi : ix cs a.2 = some i) (hj : ix cs b.2 = some j) : lubT cs a b = tyOf cs (0, some (mt cs i j)) := by
 unfold lubT nd
 rw [h1, h2, hi, hj]
 rfl
theorem lubT_ifc (G : Good cs) {a b : TY} {i j : Nat} (h1 : a.1 = 0) (h2 : b.1 = 0) (hi : ix cs a.2 = some i) (hj : ix cs b.2 = some j) (hne : i ≠ j) (h : isJ cs i = true ∨ isJ cs j = true) : lubT cs a b = objT := by
 rw [lubT_class G h1 h2 hi hj, mt_ifc G (ix_lt hi) (ix_lt hj) hne h, tyOf_obj G]
theorem lubT_mixed (G : Good cs) {a b : TY} (ha : hasT cs a) (hb : hasT cs b) (na : a ≠ intT) (h : ¬ (0 < a.1 ∧ 0 < b.1)) (h2 : ¬ (a.1 = 0 ∧ b.1 = 0)) : lubT cs a b = objT := by
 have p1 := ha.1
 have p2 := hb.1
 have : lubD cs (nd cs a).1 (nd cs a).2 (nd cs b).1 (nd cs b).2 = (0, some 0) := by
  unfold nd
  by_cases h0 : a.1 = 0
  ·have e : b.1.toNat = (b.1 - 1).toNat + 1 := by omega
   rw [h0, e]
   cases hx : ix cs a.2 <;> rfl
  ·have e : a.1.toNat = (a.1 - 1).toNat + 1 := by omega
   have e2 : b.1 = 0 := by omega
   rw [e, e2]
   rfl
 unfold lubT
 rw [this, tyOf_obj G]
theorem lubT_elem (G : Good cs) {a b : TY} (ha : hasT cs a) (hb : hasT cs b) (h1 : 0 < a.1) (h2 : 0 < b.1) (hne : a ≠ b) :
  lubT cs a b = if (a.1 - 1, a.2) = intT ∨ (b.1 - 1, b.2) = intT then objT else ((lubT cs (a.1 - 1, a.2) (b.1 - 1, b.2)).1 + 1, (lubT cs (a.1 - 1, a.2) (b.1 - 1, b.2)).2) := by
 have e1 : a.1.toNat = (a.1 - 1).toNat + 1 := by omega
 have e2 : b.1.toNat = (b.1 - 1).toNat + 1 := by omega
 have ha' : hasT cs (a.1 - 1, a.2) := ⟨by show 0 ≤ a.1 - 1; omega, by have := ha.2.1; show a.1 - 1 ≤ 4; omega, ha.2.2⟩
 have hb' : hasT cs (b.1 - 1, b.2) := ⟨by show 0 ≤ b.1 - 1; omega, by have := hb.2.1; show b.1 - 1 ≤ 4; omega, hb.2.2⟩
 have hn : ¬ ((a.1 - 1).toNat = (b.1 - 1).toNat ∧ ix cs a.2 = ix cs b.2) := by
  rintro ⟨q1, q2⟩
  apply hne
  apply (nd_inj G ha hb).1
  unfold nd
  rw [e1, e2, q1, q2]
 unfold lubT
 rw [show nd cs a = ((a.1 - 1).toNat + 1, ix cs a.2) by unfold nd; rw [e1], show nd cs b = ((b.1 - 1).toNat + 1, ix cs b.2) by unfold nd; rw [e2]]
 simp only
 rw [show lubD cs ((a.1 - 1).toNat + 1) (ix cs a.2) ((b.1 - 1).toNat + 1) (ix cs b.2) = _ by unfold lubD; rfl, if_neg hn]
 have i1 := nd_int G ha'
 have i2 := nd_int G hb'
 unfold isInt nd at i1 i2
 by_cases hq : (a.1 - 1, a.2) = intT ∨ (b.1 - 1, b.2) = intT
 ·rw [if_pos hq, if_pos (by rcases hq with h | h; exact .inl (i1.2 h); exact .inr (i2.2 h)), tyOf_obj G]
 ·rw [if_neg hq, if_neg (by rintro (h | h); exact hq (.inl (i1.1 h)); exact hq (.inr (i2.1 h)))]
  unfold tyOf nd
  refine Prod.ext ?_ rfl
  simp
end
def bc (n s : List UInt8) : PC := ⟨n, s, [], false, false, -1⟩
def builtP : List PC := [⟨objB, [], [], false, false, -1⟩, bc strB objB, bc weakB objB, bc loadB objB, bc throwB objB,
 bc [78, 117, 108, 108] throwB, bc [65, 114, 105, 116, 104] throwB, bc [66, 111, 117, 110, 100, 115] throwB, bc [83, 105, 122, 101] throwB, bc [67, 97, 115, 116] throwB,
 bc [83, 116, 111, 114, 101] throwB, bc [77, 111, 110, 105, 116, 111, 114] throwB, bc [78, 111, 67, 108, 97, 115, 115] throwB, bc [68, 101, 101, 112] throwB]
theorem distinct_nodup {cs : List PC} (h : (cs.map (·.name)).Nodup) : Distinct cs := by
 intro i j c d hc hd e
 obtain ⟨hi, rfl⟩ := List.getElem?_eq_some_iff.1 hc
 obtain ⟨hj, rfl⟩ := List.getElem?_eq_some_iff.1 hd
 have := (List.nodup_iff_pairwise_ne.1 h)
 rw [List.pairwise_iff_getElem] at this
 rcases Nat.lt_trichotomy i j with h1 | h1 | h1
 ·exact absurd (by rw [List.getElem_map, List.getElem_map]; exact e) (this i j (by simpa using hi) (by simpa using hj) h1)
 ·exact h1
 ·exact absurd (by rw [List.getElem_map, List.getElem_map]; exact e.symm) (this j i (by simpa using hj) (by simpa using hi) h1)
theorem up_built {i j : Nat} (h : Up builtP i j) : j < i := by
 obtain ⟨c, hc, h⟩ := h
 obtain ⟨hi, rfl⟩ := List.getElem?_eq_some_iff.1 hc
 have hall : ∀ i : Fin 14, (builtP[i.1]'(by have := i.2; simp [builtP])).ifaces = [] ∧ ∀ j : Fin 14, ix builtP (builtP[i.1]'(by have := i.2; simp [builtP])).super = some j.1 → j.1 < i.1 := by decide
 obtain ⟨h1, h2⟩ := hall ⟨i, by simpa [builtP] using hi⟩
 rcases h with h | ⟨nm, hnm, _⟩
 ·have hj := ix_lt h
  exact h2 ⟨j, by simpa [builtP] using hj⟩ h
 ·rw [h1] at hnm; cases hnm
theorem abv_built {i j : Nat} (h : Abv builtP i j) : j < i := by
 induction h with
 | one h => exact up_built h
 | more h _ ih => have := up_built h; omega
theorem good_built : Good builtP := by
 refine ⟨distinct_nodup (by decide), by decide, rfl, ?_, fun i h => Nat.lt_irrefl _ (abv_built h)⟩
 intro i c hc h0
 obtain ⟨hi, rfl⟩ := List.getElem?_eq_some_iff.1 hc
 have hi : i < 14 := by simpa [builtP] using hi
 have key : ∀ c : PC, (ix builtP c.super).isSome = true → c.ifaces = [] → isI builtP c.super = false → c.super ≠ strB → c.super ≠ weakB → c.super ≠ loadB → c.iface = false → kindE builtP c = 0 := by
  intro c h1 h2 h3 h4 h5 h6 h7
  unfold kindE
  rw [if_neg, if_neg]
  ·rintro (e | e | e | e | ⟨e, f⟩ | ⟨nm, hnm, e⟩)
   ·rw [h3] at e; cases e
   ·exact h4 e
   ·exact h5 e
   ·exact h6 e
   ·rw [h7] at e; cases e
   ·rw [h2] at hnm; cases hnm
  ·rintro (e | ⟨nm, hnm, e⟩)
   ·rw [e] at h1; cases h1
   ·rw [h2] at hnm; cases hnm
 have hall : ∀ i : Fin 14, i.1 ≠ 0 → let c := builtP[i.1]'(by have := i.2; simp [builtP]); (ix builtP c.super).isSome = true ∧ c.ifaces = [] ∧ isI builtP c.super = false ∧ c.super ≠ strB ∧ c.super ≠ weakB ∧ c.super ≠ loadB ∧ c.iface = false := by decide
 obtain ⟨h1, h2, h3, h4, h5, h6, h7⟩ := hall ⟨i, hi⟩ h0
 exact key _ h1 h2 h3 h4 h5 h6 h7
def bit (ws : List Nat) (k : Nat) : Bool := ((ws[k / 64]?).getD 0).testBit (k % 64)
theorem bit_lt {ws : List Nat} {k : Nat} (h : bit ws k = true) : k / 64 < ws.length := by
 apply Classical.byContradiction
 intro hn
 unfold bit at h
 rw [List.getElem?_eq_none (by omega)] at h
 simp at h
/-- One more. -/
theorem bit_put {ws : List Nat} {k w : Nat} (hw : ws[k / 64]? = some w) (j : Nat) : bit (ws.set (k / 64) (w ||| 2 ^ (k % 64))) j = (bit ws j || decide (j = k)) := by
 have hl := (List.getElem?_eq_some_iff.1 hw).1
 unfold bit
 by_cases h : j / 64 = k / 64
 ·rw [h, List.getElem?_set_self hl, hw]
  simp only [Option.getD_some, Nat.testBit_or, Nat.testBit_two_pow]
  have : decide (k % 64 = j % 64) = decide (j = k) := by
   by_cases e : j = k
   ·simp [e]
   ·rw [decide_eq_false e, decide_eq_false (by omega)]
  rw [this]
 ·rw [List.getElem?_set_ne (Ne.symm h)]
  rw [decide_eq_false (show ¬ j = k by rintro rfl; exact h rfl), Bool.or_false]
/-- Whether a word has what another one has not. -/
theorem word_new {a b : Nat} (ha : a < 2 ^ 64) (hb : b < 2 ^ 64) : a &&& (2 ^ 64 - 1 - b) = 0 ↔ ∀ r, a.testBit r = true → b.testBit r = true := by
 have e : 2 ^ 64 - 1 - b = 2 ^ 64 - (b + 1) := by omega
 rw [e]
 constructor
 ·intro h r hr
  have h2 := congrArg (fun x => Nat.testBit x r) h
  simp only [Nat.testBit_and, Nat.zero_testBit, Nat.testBit_two_pow_sub_succ hb, hr, Bool.true_and] at h2
  have hr64 : r < 64 := by
   apply Classical.byContradiction
   intro hn
   have := Nat.testBit_lt_two_pow (x := a) (i := r) (Nat.lt_of_lt_of_le ha (Nat.pow_le_pow_right (by omega) (by omega)))
   rw [this] at hr; cases hr
  rw [decide_eq_true hr64] at h2
  simpa using h2
 ·intro h
  apply Nat.eq_of_testBit_eq
  intro r
  rw [Nat.testBit_and, Nat.testBit_two_pow_sub_succ hb, Nat.zero_testBit]
  cases hr : a.testBit r with
  | false => rfl
  | true => simp [h r hr]
theorem word_lt {a b : Nat} (ha : a < 2 ^ 64) (hb : b < 2 ^ 64) : a ||| b < 2 ^ 64 := Nat.or_lt_two_pow ha hb
/-- How many of all are told: what grows as the sets are filled. -/
def told (S : Nat → Nat → Bool) (n : Nat) : Nat := (List.range (n * n)).countP (fun x => S (x / n) (x % n))
theorem told_le (S : Nat → Nat → Bool) (n : Nat) : told S n ≤ n * n := by
 have := List.countP_le_length (p := fun x => S (x / n) (x % n)) (l := List.range (n * n))
 simpa [told] using this
theorem told_lt {S T : Nat → Nat → Bool} {n : Nat} (h : ∀ i k, S i k = true → T i k = true) {i k : Nat} (hi : i < n) (hk : k < n) (h1 : S i k = false) (h2 : T i k = true) : told S n < told T n := by
 apply countP_lt
 ·intro x _ hx; exact h _ _ hx
 ·have e1 : (i * n + k) / n = i := by
   rw [Nat.mul_comm, Nat.mul_add_div (by omega), Nat.div_eq_of_lt hk]; rfl
  have e2 : (i * n + k) % n = k := by
   rw [Nat.mul_comm, Nat.mul_add_mod, Nat.mod_eq_of_lt hk]
  refine ⟨i * n + k, ?_, by rw [e1, e2]; exact h2, by rw [e1, e2]; exact h1⟩
  rw [List.mem_range]
  calc i * n + k < i * n + n := by omega
   _ = (i + 1) * n := by rw [Nat.add_mul, Nat.one_mul]
   _ ≤ n * n := Nat.mul_le_mul_right n hi
/-- Whether two have a least type above them. -/
def LubOk (cs : List PC) (a b : TY) : Prop := hasT cs a ∧ hasT cs b ∧ a ≠ intT ∧ b ≠ intT
section
variable {cs : List PC}
theorem sub_lub (G : Good cs) {a b : TY} (h : LubOk cs a b) : SubT cs a (lubT cs a b) ∧ SubT cs b (lubT cs a b) := by
 obtain ⟨ha, hb, na, nb⟩ := h
 obtain ⟨q1, q2, q3⟩ := nd_lub G ha hb na nb
 obtain ⟨r1, r2, _⟩ := lub_is G (nd cs a).1 (nd cs a).2 (nd cs b).1 (nd cs b).2 (vn_ix G) (vn_ix G) (fun h => na ((nd_int G ha).1 h)) (fun h => nb ((nd_int G hb).1 h))
 refine ⟨⟨ha, q1, ?_⟩, ⟨hb, q1, ?_⟩⟩
 ·unfold Lt; rw [q3]; exact lift_mono (fun i j h => h.abv) _ _ _ _ r1
 ·unfold Lt; rw [q3]; exact lift_mono (fun i j h => h.abv) _ _ _ _ r2
theorem lubT_comm (G : Good cs) {a b : TY} (h : LubOk cs a b) : lubT cs a b = lubT cs b a := by
 obtain ⟨ha, hb, na, nb⟩ := h
 exact congrArg (tyOf cs) (lub_comm G (vn_ix G) (vn_ix G) (fun h => na ((nd_int G ha).1 h)) (fun h => nb ((nd_int G hb).1 h)))
theorem lubT_assoc (G : Good cs) {a b c : TY} (h : LubOk cs a b) (h2 : LubOk cs b c) : lubT cs (lubT cs a b) c = lubT cs a (lubT cs b c) := by
 obtain ⟨q1, q2, q3⟩ := nd_lub G h.1 h.2.1 h.2.2.1 h.2.2.2
 obtain ⟨p1, p2, p3⟩ := nd_lub G h2.1 h2.2.1 h2.2.2.1 h2.2.2.2
 have := lub_assoc G (vn_ix G (a := a)) (vn_ix G (a := b)) (vn_ix G (a := c)) (fun x => h.2.2.1 ((nd_int G h.1).1 x)) (fun x => h.2.2.2 ((nd_int G h.2.1).1 x)) (fun x => h2.2.2.2 ((nd_int G h2.2.1).1 x))
 rw [show lubT cs (lubT cs a b) c = tyOf cs (lubD cs (nd cs (lubT cs a b)).1 (nd cs (lubT cs a b)).2 (nd cs c).1 (nd cs c).2) from rfl, q3,
  show lubT cs a (lubT cs b c) = tyOf cs (lubD cs (nd cs a).1 (nd cs a).2 (nd cs (lubT cs b c)).1 (nd cs (lubT cs b c)).2) from rfl, p3]
 exact congrArg (tyOf cs) this
theorem sub_trans (G : Good cs) {a b c : TY} (h : SubT cs a b) (h2 : SubT cs b c) : SubT cs a c :=
 ⟨h.1, h2.2.1, lift_trans (fun _ _ _ x y => x.trans y) (fun _ x => bel_top G x) _ _ _ _ _ _ h.2.2 h2.2.2⟩
end
end Go.Proofs.YtmaknddlgppinaaGreatDoor
