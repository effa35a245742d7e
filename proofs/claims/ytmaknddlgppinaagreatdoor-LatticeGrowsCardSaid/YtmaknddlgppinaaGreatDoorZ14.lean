/-
  CUT and joined from the texts of this seat: Lk Ma
-/
import Derived.Test.YtmaknddlgppinaaGreatDoorZ03
import Derived.Test.YtmaknddlgppinaaGreatDoorZ02
import Derived.Test.YtmaknddlgppinaaGreatDoorZ13
import Derived.Laws.StructEq
set_option linter.unusedVariables false
set_option linter.unusedSimpArgs false
namespace Go.Proofs.YtmaknddlgppinaaGreatDoor
open Classical
/-- What is known of a value: a kind, a type, a place. -/
structure KN where
 kind : Int
 ty : TY
 n : Int
deriving DecidableEq
def topK : KN := ⟨0, intT, 0⟩
/-- May it be? V: which types are right. -/
def RightK (V : TY → Prop) (k : KN) : Prop :=
 ((k.kind = 0 ∨ k.kind = 1 ∨ k.kind = 2 ∨ k.kind = 5) ∧ k.ty = intT ∧ k.n = 0) ∨ (k.kind = 3 ∧ V k.ty ∧ k.ty ≠ intT ∧ k.n = 0) ∨ (k.kind = 4 ∧ k.ty = intT ∧ 0 ≤ k.n)
/-- What two have in common. -/
noncomputable def joinK (cs : List PC) (V : TY → Prop) (a b : KN) : KN :=
 if ¬ (RightK V a ∧ RightK V b) then topK
 else if a = b then a
 else if a.kind = 2 ∧ b.kind = 3 then b
 else if a.kind = 3 ∧ b.kind = 2 then a
 else if a.kind = 3 ∧ b.kind = 3 ∧ LubOk cs a.ty b.ty then ⟨3, lubT cs a.ty b.ty, 0⟩
 else topK
def BelowK (cs : List PC) (V : TY → Prop) (a b : KN) : Prop :=
 RightK V a ∧ RightK V b ∧ (a = b ∨ b = topK ∨ (a.kind = 2 ∧ b.kind = 3) ∨ (a.kind = 3 ∧ b.kind = 3 ∧ SubT cs a.ty b.ty))
theorem right_top (V : TY → Prop) : RightK V topK := .inl ⟨.inl rfl, rfl, rfl⟩
/-- A known: nothing, one by itself, null, a reference. -/
inductive QK where
 | top
 | atom (k : KN)
 | null
 | ref (t : TY)
deriving DecidableEq
noncomputable def QK.join (cs : List PC) : QK → QK → QK
 | .atom x, .atom y => if x = y then .atom x else .top
 | .null, .null => .null
 | .null, .ref t => .ref t
 | .ref t, .null => .ref t
 | .ref s, .ref t => .ref (lubT cs s t)
 | _, _ => .top
def QK.Below (cs : List PC) : QK → QK → Prop
 | _, .top => True
 | .atom x, .atom y => x = y
 | .null, .null => True
 | .null, .ref _ => True
 | .ref s, .ref t => SubT cs s t
 | _, _ => False
def QK.Ok (cs : List PC) : QK → Prop
 | .ref t => hasT cs t ∧ t ≠ intT
 | _ => True
theorem QK.join_top (cs : List PC) (a : QK) : a.join cs .top = .top := by cases a <;> rfl
theorem QK.top_join (cs : List PC) (a : QK) : QK.join cs .top a = .top := by cases a <;> rfl
theorem QK.atom_join (cs : List PC) (x : KN) (a : QK) : QK.join cs (.atom x) a = if a = .atom x then .atom x else .top := by
 cases a with
 | atom y =>
  by_cases h : x = y
  ·subst h; simp [QK.join]
  ·have : ¬ y = x := fun e => h e.symm
   simp [QK.join, h, this]
 | _ => simp [QK.join]
theorem QK.join_atom (cs : List PC) (x : KN) (a : QK) : QK.join cs a (.atom x) = if a = .atom x then .atom x else .top := by
 cases a with
 | atom y =>
  by_cases h : y = x
  ·subst h; simp [QK.join]
  ·simp [QK.join, h]
 | _ => simp [QK.join]
theorem QK.join_not_atom (cs : List PC) {a b : QK} (ha : ∀ x, a ≠ .atom x) (x : KN) : a.join cs b ≠ .atom x := by
 cases a <;> cases b <;> simp [QK.join] <;> first | (exact absurd rfl (ha _)) | skip
section
variable {cs : List PC}
theorem ok2 (G : Good cs) {s t : TY} (h : QK.Ok cs (.ref s)) (k : QK.Ok cs (.ref t)) : LubOk cs s t := ⟨h.1, k.1, h.2, k.2⟩
theorem QK.join_self (G : Good cs) {a : QK} (ha : a.Ok cs) : a.join cs a = a := by
 cases a <;> simp only [QK.join, if_true]
 rw [lubT_self G ha.1 ha.2]
theorem QK.join_comm (G : Good cs) {a b : QK} (ha : a.Ok cs) (hb : b.Ok cs) : a.join cs b = b.join cs a := by
 cases a <;> cases b <;> simp only [QK.join] <;> try rfl
 ·rename_i x y
  by_cases h : x = y
  ·subst h; rfl
  ·rw [if_neg h, if_neg (fun e => h e.symm)]
 ·rw [lubT_comm G (ok2 G ha hb)]
theorem QK.join_assoc (G : Good cs) {a b c : QK} (ha : a.Ok cs) (hb : b.Ok cs) (hc : c.Ok cs) : (a.join cs b).join cs c = a.join cs (b.join cs c) := by
 by_cases h0 : a = .top ∨ b = .top ∨ c = .top
 ·rcases h0 with rfl | rfl | rfl <;> simp [QK.join_top, QK.top_join]
 by_cases h1 : ∃ x, a = .atom x
 ·obtain ⟨x, rfl⟩ := h1
  rw [QK.atom_join, QK.atom_join]
  by_cases hb : b = .atom x
  ·subst hb
   rw [if_pos rfl, QK.atom_join]
   by_cases hc : c = .atom x
   ·rw [if_pos hc, if_pos rfl]
   ·rw [if_neg hc, if_neg (by simp)]
  ·rw [if_neg hb, QK.top_join]
   rw [if_neg]
   intro e
   by_cases h2 : ∃ y, b = .atom y
   ·obtain ⟨y, rfl⟩ := h2
    rw [QK.atom_join] at e
    split at e
    ·exact hb e
    ·cases e
   ·exact QK.join_not_atom cs (fun y h => h2 ⟨y, h⟩) x e
 by_cases h3 : ∃ x, c = .atom x
 ·obtain ⟨x, rfl⟩ := h3
  rw [QK.join_atom, QK.join_atom]
  rw [if_neg (QK.join_not_atom cs (fun y h => h1 ⟨y, h⟩) x)]
  by_cases hb : b = .atom x
  ·subst hb
   rw [if_pos rfl, QK.join_atom, if_neg (fun e => h1 ⟨x, e⟩)]
  ·rw [if_neg hb, QK.join_top]
 by_cases h2 : ∃ y, b = .atom y
 ·obtain ⟨y, rfl⟩ := h2
  rw [QK.join_atom, QK.atom_join, if_neg (fun e => h1 ⟨y, e⟩), if_neg (fun e => h3 ⟨y, e⟩), QK.join_top, QK.top_join]
 cases a <;> cases b <;> cases c <;> first
  | rfl
  | (exact absurd ⟨_, rfl⟩ h1)
  | (exact absurd ⟨_, rfl⟩ h2)
  | (exact absurd ⟨_, rfl⟩ h3)
  | (exact absurd (by first | exact .inl rfl | exact .inr (.inl rfl) | exact .inr (.inr rfl)) h0)
  | skip
 simp only [QK.join]
 rw [lubT_assoc G (ok2 G ha hb) (ok2 G hb hc)]
theorem QK.below_refl (G : Good cs) {a : QK} (ha : a.Ok cs) : a.Below cs a := by
 cases a <;> try exact trivial
 ·rfl
 ·exact sub_eq G ha.1
theorem QK.below_join (G : Good cs) {a b : QK} (ha : a.Ok cs) (hb : b.Ok cs) : a.Below cs (a.join cs b) := by
 cases a <;> cases b <;> simp only [QK.join] <;> try exact trivial
 ·rename_i x y
  by_cases h : x = y
  ·rw [if_pos h]; rfl
  ·rw [if_neg h]; exact trivial
 ·exact sub_eq G ha.1
 ·exact (sub_lub G (ok2 G ha hb)).1
theorem QK.below_trans (G : Good cs) {a b c : QK} (h : a.Below cs b) (k : b.Below cs c) : a.Below cs c := by
 cases a <;> cases b <;> cases c <;> simp only [QK.Below] at * <;> try exact trivial
 ·exact h.trans k
 ·exact sub_trans G h k
end
/-- What a known is. -/
noncomputable def qk (k : KN) : QK := if k.kind = 0 then .top else if k.kind = 2 then .null else if k.kind = 3 then .ref k.ty else .atom k
/-- A known that may be, of a type whose class is there. -/
def OkK (cs : List PC) (V : TY → Prop) (k : KN) : Prop := RightK V k ∧ (k.kind = 3 → hasT cs k.ty)
section
variable {cs : List PC} {V : TY → Prop}
theorem OkK.qok {k : KN} (h : OkK cs V k) : (qk k).Ok cs := by
 unfold qk
 split
 ·exact trivial
 split
 ·exact trivial
 split
 ·rename_i h3
  refine ⟨h.2 h3, ?_⟩
  rcases h.1 with ⟨h1, _⟩ | ⟨_, _, h1, _⟩ | ⟨h1, _⟩
  ·omega
  ·exact h1
  ·omega
 ·exact trivial
theorem qk_inj {a b : KN} (ha : RightK V a) (hb : RightK V b) : qk a = qk b ↔ a = b := by
 refine ⟨fun h => ?_, fun h => by rw [h]⟩
 obtain ⟨ka, ta, na⟩ := a
 obtain ⟨kb, tb, nb⟩ := b
 unfold qk at h
 simp only at h
 rcases ha with ⟨a1, a2, a3⟩ | ⟨a1, a2, a3, a4⟩ | ⟨a1, a2, a3⟩ <;> rcases hb with ⟨b1, b2, b3⟩ | ⟨b1, b2, b3, b4⟩ | ⟨b1, b2, b3⟩ <;> simp only at * <;> (try subst a1) <;> (try subst b1)
 ·rcases a1 with rfl | rfl | rfl | rfl <;> rcases b1 with rfl | rfl | rfl | rfl <;> simp_all
 ·rcases a1 with rfl | rfl | rfl | rfl <;> simp_all
 ·rcases a1 with rfl | rfl | rfl | rfl <;> simp_all
 ·rcases b1 with rfl | rfl | rfl | rfl <;> simp_all
 ·simp_all
 ·simp_all
 ·rcases b1 with rfl | rfl | rfl | rfl <;> simp_all
 ·simp_all
 ·simp_all
theorem below_q {a b : KN} (ha : RightK V a) (hb : RightK V b) : BelowK cs V a b ↔ (qk a).Below cs (qk b) ∨ a = b := by
 unfold BelowK
 simp only [ha, hb, true_and]
 obtain ⟨ka, ta, na⟩ := a
 obtain ⟨kb, tb, nb⟩ := b
 rcases ha with ⟨a1, a2, a3⟩ | ⟨a1, a2, a3, a4⟩ | ⟨a1, a2, a3⟩ <;> rcases hb with ⟨b1, b2, b3⟩ | ⟨b1, b2, b3, b4⟩ | ⟨b1, b2, b3⟩ <;> simp only at * <;> (try subst a1) <;> (try subst b1)
 ·subst a2; subst a3; subst b2; subst b3
  rcases a1 with rfl | rfl | rfl | rfl <;> rcases b1 with rfl | rfl | rfl | rfl <;> simp [qk, QK.Below, topK]
 ·rcases a1 with rfl | rfl | rfl | rfl <;> simp [qk, QK.Below, topK]
 ·rcases a1 with rfl | rfl | rfl | rfl <;> simp [qk, QK.Below, topK]
 ·subst b2; subst b3
  rcases b1 with rfl | rfl | rfl | rfl <;> simp [qk, QK.Below, topK]
 ·simp [qk, QK.Below, topK]
  constructor
  ·rintro (⟨h1, h2⟩ | h)
   ·exact .inr ⟨h1, h2⟩
   ·exact .inl h
  ·rintro (h | ⟨h1, h2⟩)
   ·exact .inr h
   ·exact .inl ⟨h1, h2⟩
 ·simp [qk, QK.Below, topK]
 ·subst b2; subst b3
  rcases b1 with rfl | rfl | rfl | rfl <;> simp [qk, QK.Below, topK]
 ·simp [qk, QK.Below, topK]
 ·simp [qk, QK.Below, topK]
end
section
variable {cs : List PC} {V : TY → Prop}
theorem below_iff (G : Good cs) (hV : ∀ t, hasT cs t → V t) {a b : KN} (ha : OkK cs V a) (hb : OkK cs V b) : BelowK cs V a b ↔ (qk a).Below cs (qk b) := by
 rw [below_q ha.1 hb.1]
 constructor
 ·rintro (h | rfl)
  ·exact h
  ·exact QK.below_refl G ha.qok
 ·exact .inl
/-- A join, as one by cases. -/
theorem join_q (G : Good cs) (hV : ∀ t, hasT cs t → V t) {a b : KN} (ha : OkK cs V a) (hb : OkK cs V b) : OkK cs V (joinK cs V a b) ∧ qk (joinK cs V a b) = (qk a).join cs (qk b) := by
 unfold joinK
 rw [if_neg (by simp [ha.1, hb.1])]
 have qa := ha.qok
 have qb := hb.qok
 have top_ok : OkK cs V topK := ⟨right_top V, fun h => by simp [topK] at h⟩
 by_cases he : a = b
 ·subst he
  rw [if_pos rfl]
  exact ⟨ha, (QK.join_self G qa).symm⟩
 rw [if_neg he]
 have hne : qk a ≠ qk b := fun h => he ((qk_inj ha.1 hb.1).1 h)
 by_cases h23 : a.kind = 2 ∧ b.kind = 3
 ·rw [if_pos h23]
  refine ⟨hb, ?_⟩
  simp [qk, h23.1, h23.2, QK.join]
 rw [if_neg h23]
 by_cases h32 : a.kind = 3 ∧ b.kind = 2
 ·rw [if_pos h32]
  refine ⟨ha, ?_⟩
  simp [qk, h32.1, h32.2, QK.join]
 rw [if_neg h32]
 by_cases h33 : a.kind = 3 ∧ b.kind = 3
 ·have e1 : qk a = .ref a.ty := by simp [qk, h33.1]
  have e2 : qk b = .ref b.ty := by simp [qk, h33.2]
  rw [e1] at qa
  rw [e2] at qb
  have hl := ok2 G qa qb
  rw [if_pos ⟨h33.1, h33.2, hl⟩]
  obtain ⟨q1, q2, _⟩ := nd_lub G hl.1 hl.2.1 hl.2.2.1 hl.2.2.2
  refine ⟨⟨.inr (.inl ⟨rfl, hV _ q1, q2, rfl⟩), fun _ => q1⟩, ?_⟩
  rw [e1, e2]
  simp [qk, QK.join]
 ·rw [if_neg (fun h => h33 ⟨h.1, h.2.1⟩)]
  refine ⟨top_ok, ?_⟩
  have et : qk topK = .top := by simp [qk, topK]
  rw [et]
  by_cases a0 : a.kind = 0
  ·have : qk a = .top := by simp [qk, a0]
   rw [this]; cases qk b <;> rfl
  by_cases b0 : b.kind = 0
  ·have : qk b = .top := by simp [qk, b0]
   rw [this]; cases qk a <;> rfl
  by_cases a2 : a.kind = 2
  ·have e1 : qk a = .null := by simp [qk, a2]
   by_cases b2 : b.kind = 2
   ·exact absurd (by rw [e1]; simp [qk, b2]) hne
   ·have e2 : qk b = .atom b := by
     have : b.kind ≠ 3 := fun h => h23 ⟨a2, h⟩
     simp [qk, b0, b2, this]
    rw [e1, e2]; rfl
  by_cases a3 : a.kind = 3
  ·have e1 : qk a = .ref a.ty := by simp [qk, a3]
   have e2 : qk b = .atom b := by
    have h1 : b.kind ≠ 3 := fun h => h33 ⟨a3, h⟩
    have h2 : b.kind ≠ 2 := fun h => h32 ⟨a3, h⟩
    simp [qk, b0, h1, h2]
   rw [e1, e2]; rfl
  have e1 : qk a = .atom a := by simp [qk, a0, a2, a3]
  rw [e1]
  by_cases b2 : b.kind = 2
  ·rw [show qk b = .null by simp [qk, b2]]; rfl
  by_cases b3 : b.kind = 3
  ·rw [show qk b = .ref b.ty by simp [qk, b3]]; rfl
  rw [show qk b = .atom b by simp [qk, b0, b2, b3]]
  simp only [QK.join]
  rw [if_neg he]
theorem joinK_ok (G : Good cs) (hV : ∀ t, hasT cs t → V t) {a b : KN} (ha : OkK cs V a) (hb : OkK cs V b) : OkK cs V (joinK cs V a b) := (join_q G hV ha hb).1
theorem joinK_self (G : Good cs) (hV : ∀ t, hasT cs t → V t) {a : KN} (ha : OkK cs V a) : joinK cs V a a = a := by
 unfold joinK
 rw [if_neg (by simp [ha.1]), if_pos rfl]
theorem joinK_comm (G : Good cs) (hV : ∀ t, hasT cs t → V t) {a b : KN} (ha : OkK cs V a) (hb : OkK cs V b) : joinK cs V a b = joinK cs V b a := by
 refine (qk_inj (joinK_ok G hV ha hb).1 (joinK_ok G hV hb ha).1).1 ?_
 rw [(join_q G hV ha hb).2, (join_q G hV hb ha).2, QK.join_comm G ha.qok hb.qok]
theorem joinK_assoc (G : Good cs) (hV : ∀ t, hasT cs t → V t) {a b c : KN} (ha : OkK cs V a) (hb : OkK cs V b) (hc : OkK cs V c) : joinK cs V (joinK cs V a b) c = joinK cs V a (joinK cs V b c) := by
 have h1 := joinK_ok G hV ha hb
 have h2 := joinK_ok G hV hb hc
 refine (qk_inj (joinK_ok G hV h1 hc).1 (joinK_ok G hV ha h2).1).1 ?_
 rw [(join_q G hV h1 hc).2, (join_q G hV ha h2).2, (join_q G hV ha hb).2, (join_q G hV hb hc).2, QK.join_assoc G ha.qok hb.qok hc.qok]
theorem belowK_refl (G : Good cs) (hV : ∀ t, hasT cs t → V t) {a : KN} (ha : OkK cs V a) : BelowK cs V a a := ⟨ha.1, ha.1, .inl rfl⟩
theorem belowK_join (G : Good cs) (hV : ∀ t, hasT cs t → V t) {a b : KN} (ha : OkK cs V a) (hb : OkK cs V b) : BelowK cs V a (joinK cs V a b) ∧ BelowK cs V b (joinK cs V a b) := by
 have h := joinK_ok G hV ha hb
 refine ⟨(below_iff G hV ha h).2 ?_, (below_iff G hV hb h).2 ?_⟩
 ·rw [(join_q G hV ha hb).2]
  exact QK.below_join G ha.qok hb.qok
 ·rw [(join_q G hV ha hb).2, QK.join_comm G ha.qok hb.qok]
  exact QK.below_join G hb.qok ha.qok
theorem belowK_trans (G : Good cs) (hV : ∀ t, hasT cs t → V t) {a b c : KN} (ha : OkK cs V a) (hb : OkK cs V b) (hc : OkK cs V c) (h : BelowK cs V a b) (k : BelowK cs V b c) : BelowK cs V a c := by
 rw [below_iff G hV ha hb] at h
 rw [below_iff G hV hb hc] at k
 exact (below_iff G hV ha hc).2 (QK.below_trans G h k)
end
end Go.Proofs.YtmaknddlgppinaaGreatDoor
namespace Go.Proofs.YtmaknddlgppinaaGreatDoor
open Go.RowKit
set_option maxRecDepth 1000000 in
set_option maxHeartbeats 3200000 in
theorem validT_any (d : Int) (s : ByteArray) (w : World) :
  Calls Tryz.prog 114 #[.agg #[.int .i64 d, .string s]] w fun e w' => e = .returned (.bool (rightT d (L s))) ∧ Below w.heap.size w w' := by
 have N := Lib.hid (Name_any s (w.alloc (.cells #[.int .i64 d, .string s] 31)))
 have HE := Lib.hid (show rightT d (L s) = (decide (0 ≤ d) && (decide (d ≤ 4) && (decide (L s = []) || nameL (L s)))) from rfl)
 have hsl : s.toList = L s := Lib.toList_data s
 have HSL := Lib.hid hsl
 have B0 := Lib.hid ((Below.refl w.heap.size w).alloc (Nat.le_refl _) (.cells #[.int .i64 d, .string s] 31))
 generalize nameL (L s) = q at *
 generalize rightT d (L s) = R at *
 clear hsl
 go_enter Tryz.func114, Tryz.ntmps114
 by_cases h1 : 0 ≤ d
 ·have e1 : decide (0 ≤ d) = true := decide_eq_true h1
  by_cases h2 : d ≤ 4
  ·have e2 : decide (d ≤ 4) = true := decide_eq_true h2
   by_cases h3 : s.toList = []
   ·have e3 : (s.toList == []) = true := by simpa using h3
    have H3 := Lib.hid h3
    clear h3
    go_wp2
    go_ret
    exact ⟨ret_bool (by rw [HE.out, e1, e2, ← HSL.out, H3.out]; rfl), B0.out⟩
   ·have e3 : (s.toList == []) = false := by simpa using h3
    have H3 := Lib.hid h3
    clear h3
    go_wp2_with fail
    refine N.out.mono ?_
    rintro e w1 ⟨rfl, hb⟩
    have B1 := Lib.hid (B0.out.trans (hb.mono (by simp)))
    clear hb
    go_wp2
    go_ret
    exact ⟨ret_bool (by rw [HE.out, e1, e2, ← HSL.out, decide_eq_false H3.out]; rfl), B1.out⟩
  ·have e2 : decide (d ≤ 4) = false := decide_eq_false h2
   go_wp2
   go_ret
   exact ⟨ret_bool (by rw [HE.out, e1, e2]; rfl), B0.out⟩
 ·have e1 : decide (0 ≤ d) = false := decide_eq_false h1
  go_wp2
  go_ret
  exact ⟨ret_bool (by rw [HE.out, e1]; rfl), B0.out⟩
theorem neq31c (d d' : Int) (s s' : ByteArray) (w : World) : (binOp .neq 31 (.agg #[.int .i64 d, .string s]) (.agg #[.int .i64 d', .string s'])).run Tryz.prog w = .ok (.bool (!decide (d = d' ∧ s = s'))) w := by
 have h : (Op.equal 31 (.agg #[.int .i64 d, .string s]) (.agg #[.int .i64 d', .string s'])).run Tryz.prog w = .ok (decide (d = d' ∧ s = s')) w := eq31 d d' s s' w
 simp only [binOp]
 simp [h]
theorem str_nilK (s : ByteArray) : s = ⟨#[]⟩ ↔ L s = [] := by
 constructor
 ·rintro rfl; rfl
 ·intro h; cases s; congr 1; exact Array.toList_inj.1 h
set_option maxRecDepth 1000000 in
set_option maxHeartbeats 3200000 in
theorem IsRef_any (d : Int) (s : ByteArray) (w : World) :
  Calls Tryz.prog 86 #[.agg #[.int .i64 d, .string s]] w fun e w' => e = .returned (.bool (refT d (L s))) ∧ Below w.heap.size w w' := by
 have N := Lib.hid (validT_any d s (w.alloc (.cells #[.int .i64 d, .string s] 31)))
 have HE := Lib.hid (show refT d (L s) = (rightT d (L s) && !decide (d = 0 ∧ s = ⟨#[]⟩)) by
  unfold refT
  cases hr : rightT d (L s) with
  | false => rfl
  | true =>
   unfold rightT at hr
   simp only [Bool.and_eq_true, decide_eq_true_eq] at hr
   have h0 := hr.1
   rw [Bool.eq_iff_iff]
   simp only [str_nilK, Bool.true_and, Bool.or_eq_true, decide_eq_true_eq, Bool.not_eq_true', decide_eq_false_iff_not, not_and]
   constructor
   ·rintro (h | h) h1
    ·omega
    ·exact h
   ·intro h
    by_cases h1 : d = 0
    ·exact .inr (h h1)
    ·exact .inl (by omega))
 have q1 := fun V : World => neq31c d 0 s ⟨#[]⟩ V
 generalize (!decide (d = 0 ∧ s = ⟨#[]⟩)) = x at *
 generalize rightT d (L s) = q at *
 generalize refT d (L s) = R at *
 go_enter Tryz.func86, Tryz.ntmps86
 go_wp2_with fail
 refine N.out.mono ?_
 rintro e w1 ⟨rfl, hb⟩
 have B1 := Lib.hid (((Below.refl w.heap.size w).alloc (Nat.le_refl _) (.cells #[.int .i64 d, .string s] 31)).trans (hb.mono (by simp)))
 have k := kcells_of ((hb.block w.heap.size (by simp)).trans (hheap_new w (.cells #[.int .i64 d, .string s] 31)))
 have k0 := k 0
 have k1 := k 1
 simp only [List.getElem?_toArray, List.getElem?_cons_succ, List.getElem?_cons_zero] at k0 k1
 clear hb k
 cases q with
 | false =>
  go_wp2
  go_ret
  exact ⟨ret_bool (by rw [HE.out]; rfl), B1.out⟩
 | true =>
  go_wp2
  go_ret
  exact ⟨ret_bool (by rw [HE.out]; rfl), B1.out⟩
theorem results88 : Tryz.f88.results = #[ResultVar.cell 0 64] := by kernel_rfl
set_option maxRecDepth 1000000 in
set_option maxHeartbeats 1600000 in
theorem top_any (w : World) :
  Calls Tryz.prog 88 #[] w fun e w' => e = .returned (.agg #[.int .i64 0, .int .i64 0, .string ⟨#[]⟩, .int .i64 0]) ∧ Below w.heap.size w w' := by
 go_enter Tryz.func88, Tryz.ntmps88
 go_wp2
 refine bodyPost_ret (v := .agg #[.int .i64 0, .int .i64 0, .string ⟨#[]⟩, .int .i64 0]) (by simp [results, results88, go_sem]) rfl ⟨rfl, ?_⟩
 exact (Below.refl w.heap.size w).alloc (Nat.le_refl _) _
theorem results87 : Tryz.f87.results = #[ResultVar.cell 2 64] := by kernel_rfl
set_option maxRecDepth 1000000 in
set_option maxHeartbeats 1600000 in
theorem reference_any (d : Int) (s : ByteArray) (w : World) :
  Calls Tryz.prog 87 #[.agg #[.int .i64 d, .string s]] w fun e w' => e = .returned (.agg #[.int .i64 3, .int .i64 d, .string s, .int .i64 0]) ∧ Below w.heap.size w w' := by
 go_enter Tryz.func87, Tryz.ntmps87
 go_wp2
 refine bodyPost_ret (v := .agg #[.int .i64 3, .int .i64 d, .string s, .int .i64 0]) (by simp [results, results87, go_sem]) rfl ⟨rfl, ?_⟩
 exact ((Below.refl w.heap.size w).alloc (Nat.le_refl _) _).alloc (by simp) _
theorem eq31x (d d' : Int) (s s' : ByteArray) (w : World) : (Op.equalIn 9999 31 (.agg #[.int .i64 d, .string s]) (.agg #[.int .i64 d', .string s'])).run Tryz.prog w = .ok (decide (d = d' ∧ s = s')) w := by
 have u3 := Tryz.underlying3
 have a3 := Tryz.isAgg3
 have z3 := Tryz.sizeOf3
 have u9 := Tryz.underlying9
 have a9 := Tryz.isAgg9
 have z9 := Tryz.sizeOf9
 have hS : Tryz.prog.underlying 31 = some (.struct (Tryz.prog.fieldsOf 31)) := by kernel_rfl
 rw [show (9999 : Nat) = 9998 + 1 from rfl, run_equalIn_agg w 9998 31 _ _ hS (by kernel_rfl)]
 simp only [Program.fieldsOf, Tryz.underlying31]
 have hb := beq_str s s'
 go_simp
 by_cases h1 : d = d' <;> by_cases h2 : s = s' <;> simp [h1, h2, hb]
theorem eq64 (k d n k' d' n' : Int) (s s' : ByteArray) (w : World) : (Op.equalIn 10000 64 (.agg #[.int .i64 k, .int .i64 d, .string s, .int .i64 n]) (.agg #[.int .i64 k', .int .i64 d', .string s', .int .i64 n'])).run Tryz.prog w = .ok (decide (k = k' ∧ (d = d' ∧ s = s') ∧ n = n')) w := by
 have u3 := Tryz.underlying3
 have a3 := Tryz.isAgg3
 have z3 := Tryz.sizeOf3
 have u31 := Tryz.underlying31
 have a31 := Tryz.isAgg31
 have z31 := Tryz.sizeOf31
 have h31 := fun w => eq31x d d' s s' w
 have hS : Tryz.prog.underlying 64 = some (.struct (Tryz.prog.fieldsOf 64)) := by kernel_rfl
 rw [show (10000 : Nat) = 9999 + 1 from rfl, run_equalIn_agg w 9999 64 _ _ hS (by kernel_rfl)]
 simp only [Program.fieldsOf, Tryz.underlying64]
 go_simp
 by_cases h1 : k = k' <;> by_cases h2 : d = d' <;> by_cases h4 : s = s' <;> by_cases h3 : n = n' <;> simp [h1, h2, h4, h3, h31]
theorem eql64 (k d n k' d' n' : Int) (s s' : ByteArray) (w : World) : (binOp .eql 64 (.agg #[.int .i64 k, .int .i64 d, .string s, .int .i64 n]) (.agg #[.int .i64 k', .int .i64 d', .string s', .int .i64 n'])).run Tryz.prog w = .ok (.bool (decide (k = k' ∧ (d = d' ∧ s = s') ∧ n = n'))) w := by
 have h : (Op.equal 64 (.agg #[.int .i64 k, .int .i64 d, .string s, .int .i64 n]) (.agg #[.int .i64 k', .int .i64 d', .string s', .int .i64 n'])).run Tryz.prog w = .ok (decide (k = k' ∧ (d = d' ∧ s = s') ∧ n = n')) w := eq64 k d n k' d' n' s s' w
 simp only [binOp]
 simp [h]
theorem neq64 (k d n k' d' n' : Int) (s s' : ByteArray) (w : World) : (binOp .neq 64 (.agg #[.int .i64 k, .int .i64 d, .string s, .int .i64 n]) (.agg #[.int .i64 k', .int .i64 d', .string s', .int .i64 n'])).run Tryz.prog w = .ok (.bool (!decide (k = k' ∧ (d = d' ∧ s = s') ∧ n = n'))) w := by
 have h : (Op.equal 64 (.agg #[.int .i64 k, .int .i64 d, .string s, .int .i64 n]) (.agg #[.int .i64 k', .int .i64 d', .string s', .int .i64 n'])).run Tryz.prog w = .ok (decide (k = k' ∧ (d = d' ∧ s = s') ∧ n = n')) w := eq64 k d n k' d' n' s s' w
 simp only [binOp]
 simp [h]
end Go.Proofs.YtmaknddlgppinaaGreatDoor
