/-
  CUT and joined from the texts of this seat: Hx Ic Id Ie W3 W9
-/
import Derived.Test.YtmaknddlgppinaaGreatDoorZ03
import Derived.Test.YtmaknddlgppinaaGreatDoorZ10
import Derived.Test.YtmaknddlgppinaaGreatDoorZ07
import Derived.Test.YtmaknddlgppinaaGreatDoorZ01
import Derived.Test.YtmaknddlgppinaaGreatDoorZ02
import Derived.Deep.QuietTactic
import Derived.BigQuiet
set_option linter.unusedVariables false
set_option linter.unusedSimpArgs false
namespace Go.Proofs.YtmaknddlgppinaaGreatDoor
open Classical
theorem Ch.at_sle {cs : List PC} {i : Nat} {l : List Nat} (h : Ch cs i l) : ∀ {k p x y : Nat}, l[k]? = some x → l[p]? = some y → k ≤ p → Sle cs x y := by
 induction h with
 | last _ =>
  intro k p x y hx hy hkp
  have h1 : k = 0 := by have := (List.getElem?_eq_some_iff.1 hx).1; simpa using this
  have h2 : p = 0 := by have := (List.getElem?_eq_some_iff.1 hy).1; simpa using this
  subst h1; subst h2
  rw [hx] at hy; cases hy; exact .refl
 | @next i j l hs hl ih =>
  intro k p x y hx hy hkp
  cases k with
  | zero =>
   rw [List.getElem?_cons_zero] at hx
   cases hx
   exact (Ch.sle (.next hs hl)).1 (List.mem_of_getElem? hy)
  | succ k =>
   cases p with
   | zero => omega
   | succ p =>
    rw [List.getElem?_cons_succ] at hx hy
    exact ih hx hy (by omega)
/-- The first of a chain that is in the other one. -/
theorem mt_chain {cs : List PC} (G : Good cs) {i j : Nat} {l m : List Nat} (hl : Ch cs i l) (hm : Ch cs j m) {k x : Nat} (hk : l[k]? = some x) (hx : x ∈ m) (hf : ∀ p, p < k → ∀ y, l[p]? = some y → y ∉ m) : mt cs i j = x := by
 refine mt_eq G ⟨hl.sle.1 (List.mem_of_getElem? hk), hm.sle.1 hx, fun z h1 h2 => ?_⟩
 have hz := hl.sle.2 h1
 obtain ⟨p, hp, rfl⟩ := List.getElem_of_mem hz
 have hp' := List.getElem?_eq_getElem hp
 by_cases h : p < k
 ·exact absurd (hm.sle.2 h2) (hf p h _ hp')
 ·exact hl.at_sle hk hp' (by omega)
theorem Ch.lt {cs : List PC} {i : Nat} {l : List Nat} (h : Ch cs i l) (hi : i < cs.length) {x : Nat} (hx : x ∈ l) : x < cs.length := by
 rcases h.mem hx with rfl | h
 ·exact hi
 ·exact h.lt.2
/-- Whether j is directly above i. -/
def upB (cs : List PC) (i j : Nat) : Bool := match cs[i]? with
 | none => false
 | some c => decide (ix cs c.super = some j) || c.ifaces.any fun nm => decide (ix cs nm = some j)
theorem upB_iff {cs : List PC} {i j : Nat} : upB cs i j = true ↔ Up cs i j := by
 unfold upB Up
 cases hc : cs[i]? with
 | none => simp
 | some c => simp
/-- A number that falls at each step up shows that no class is above itself. -/
def falls (cs : List PC) (rk : List Nat) : Bool := (List.range cs.length).all fun i => (List.range cs.length).all fun j => !upB cs i j || decide ((rk[j]?).getD 0 < (rk[i]?).getD 0)
theorem falls_up {cs : List PC} {rk : List Nat} (h : falls cs rk = true) {i j : Nat} (hu : Up cs i j) : (rk[j]?).getD 0 < (rk[i]?).getD 0 := by
 unfold falls at h
 rw [List.all_eq_true] at h
 have h1 := h i (List.mem_range.2 hu.lt.1)
 rw [List.all_eq_true] at h1
 have h2 := h1 j (List.mem_range.2 hu.lt.2)
 rw [upB_iff.2 hu] at h2
 simpa using h2
theorem falls_abv {cs : List PC} {rk : List Nat} (h : falls cs rk = true) {i j : Nat} (hu : Abv cs i j) : (rk[j]?).getD 0 < (rk[i]?).getD 0 := by
 induction hu with
 | one hu => exact falls_up h hu
 | more hu _ ih => have := falls_up h hu; omega
theorem falls_acyc {cs : List PC} {rk : List Nat} (h : falls cs rk = true) (i : Nat) : ¬ Abv cs i i := fun hu => Nat.lt_irrefl _ (falls_abv h hu)
theorem firstR_all {cs : List PC} (k : Nat) (h : ∀ i, ¬ Abv cs i i) : ∀ n i, firstR cs k n i = none
 | 0, _ => rfl
 | n + 1, i => by unfold firstR; rw [if_neg (h _)]; exact firstR_all k h n (i + 1)
/-- Files that make a table. -/
theorem openP_of {cs ds : List PC} {fs : List FC} {rk : List Nat} (h0 : fs.length ≤ 64) (h1 : addP cs fs 0 = .inl ds) (h2 : ∀ c ∈ ds.drop cs.length, kindE ds c = 0) (h3 : falls ds rk = true) : openP cs fs = .inl ds := by
 have hE : ∀ (l : List PC) (i : Nat), (∀ c ∈ l, kindE ds c = 0) → firstE (kindE ds) l i = none := by
  intro l
  induction l with
  | nil => intro i _; rfl
  | cons c l ih => intro i h; unfold firstE; rw [if_neg (by rw [h c (by simp)]; simp)]; exact ih _ fun d hd => h d (by simp [hd])
 unfold openP
 rw [if_neg (by omega), h1]
 simp only
 rw [hE _ _ h2]
 simp only
 rw [firstR_all _ (falls_acyc h3)]
/-- kindE, so that it can be reckoned. -/
def kindB (cs : List PC) (c : PC) : Nat :=
 if (ix cs c.super).isNone || c.ifaces.any (fun nm => (ix cs nm).isNone) then 14
 else if isI cs c.super || decide (c.super = strB) || decide (c.super = weakB) || decide (c.super = loadB) || (c.iface && !decide (c.super = objB)) || c.ifaces.any (fun nm => !isI cs nm) then 17
 else 0
theorem kindB_eq (cs : List PC) (c : PC) : kindB cs c = kindE cs c := by
 unfold kindB kindE
 simp only [Bool.or_eq_true, List.any_eq_true, Option.isNone_iff_eq_none, Bool.and_eq_true, Bool.not_eq_true', decide_eq_true_eq, decide_eq_false_iff_not, or_assoc, ne_eq]
theorem ch_of {cs : List PC} : ∀ {l : List Nat} {i : Nat}, l[0]? = some i → (∀ k x, l[k]? = some x → sup cs x = l[k + 1]?) → Ch cs i l
 | [], i, h, _ => by cases h
 | [x], i, h, h2 => by
  cases h
  exact .last (h2 0 _ rfl)
 | x :: y :: l, i, h, h2 => by
  cases h
  refine .next (h2 0 _ rfl) (ch_of (l := y :: l) rfl fun k z hz => ?_)
  have := h2 (k + 1) z (by simpa using hz)
  simpa using this
end Go.Proofs.YtmaknddlgppinaaGreatDoor
namespace Go.Proofs.YtmaknddlgppinaaGreatDoor
open Go.RowKit
theorem und45c : Tryz.prog.underlying 45 = some (.slice 9) := by kernel_rfl
theorem info9 : ∃ i, Tryz.prog.info? 9 = some i ∧ i.zero = some (.string ⟨#[]⟩) ∧ i.size = 1 ∧ i.bytes = 16 := info_parts (by kernel_rfl)
section
variable {B tb mb cap ow : Nat} {A : Option Addr} {cs : List PC} {cl sl : Nat → Nat} {S : Nat → List Nat} {w : World}
/-- A row of texts that the call owns grows by one. -/
theorem OwnS.snoc {wr w3 : World} {base : Nat} {v v3 : Value} {ns : List (List UInt8)} {ss : List ByteArray} (h1 : ss.map (fun s => s.data.toList) = ns) (h2 : ∀ s ∈ ss, s.size ≤ 1000000) {s : ByteArray} {nm : List UInt8} (hs : s.data.toList = nm) (hz : s.size ≤ 1000000)
  (own3 : w3.ownsRow base 9 1 v3 (ss.length + 1) (scells ss ++ [.string s])) : OwnS w3 base v3 (ns ++ [nm]) := by
 refine ⟨ss ++ [s], by simp [h1, hs], ?_, ?_⟩
 ·intro t ht
  rcases List.mem_append.1 ht with ht | ht
  ·exact h2 t ht
  ·obtain rfl := List.mem_singleton.1 ht
   exact hz
 ·rw [List.length_append, List.length_singleton]
  unfold scells at own3 ⊢
  rw [List.map_append]
  exact own3
theorem Ch.nodup {cs : List PC} (G : Good cs) {i : Nat} {l : List Nat} (h : Ch cs i l) : l.Nodup := by
 induction h with
 | last _ => simp
 | @next i j l hs hl ih =>
  refine List.nodup_cons.2 ⟨fun hm => ?_, ih⟩
  rcases hl.mem hm with e | e
  ·exact G.acyc i (.one (by have := sup_up hs; rwa [← e] at this))
  ·exact G.acyc i (.more (sup_up hs) e)
end
section
variable {B tb mb cap ow : Nat} {A : Option Addr} {cs : List PC} {cl sl : Nat → Nat} {S : Nat → List Nat} {w : World}
/-- Where the row of all classes stands. -/
theorem HT.row (h : HT B tb mb A cap ow cs cl sl S w) : ∃ b o, A = some ⟨b, o, none⟩ ∧ b < B ∧ cs.length ≤ cap ∧ ∀ j, j < cs.length → w.cell? ⟨b, o + j, none⟩ = some (.pointer (some ⟨cl j, 0, none⟩)) := by
 obtain ⟨A', cap', e, h1, h2, h3⟩ := h.all
 injection e with e1 e2 e3
 subst e1; subst e3
 obtain ⟨b, o, e, hb, hc⟩ := h3.2 h.good.pos
 exact ⟨b, o, e, hb, h1, fun j hj => hc j _ (ptrs_at cl hj)⟩
end
section
variable {B tb mb cap ow : Nat} {A : Option Addr} {cs : List PC} {cl sl : Nat → Nat} {S : Nat → List Nat} {w : World}
def zeroCls : Value := .agg #[.string ⟨#[]⟩, .string ⟨#[]⟩, .slice none 0 0, .bool false, .bool false, .bool false, .int .i64 0]
/-- What Find answers. -/
def FindAns (cs : List PC) (ow : Nat) (nm : List UInt8) (w' : World) (e : Ending) : Prop :=
 (ix cs nm = none ∧ e = .returned (.tuple #[zeroCls, .bool false])) ∨
 ∃ i c, ∃ k : KC, ∃ ifn, ix cs nm = some i ∧ cs[i]? = some c ∧ Nmd k c ∧ SRow w'.heap.size w' ifn c.ifaces ∧ e = .returned (.tuple #[.agg #[.string k.name, .string k.super, ifn, .bool c.iface, .bool c.abs, .bool (decide (ow ≤ i)), .int .i64 c.at_], .bool true])
end
end Go.Proofs.YtmaknddlgppinaaGreatDoor
namespace Go.Proofs.YtmaknddlgppinaaGreatDoor
open Go.RowKit
open Go.Lib (decodeN)
/-- 'dec', with (0, 0) where there is none. -/
def nextL (l : List UInt8) : Nat × Nat := if bad (dec l) then (0, 0) else dec l
theorem nextL_of {l : List UInt8} {p : Nat × Nat} (h : dec l = p) : nextL l = if p = (65533, 1) then (0, 0) else p := by
 unfold nextL bad
 rw [h]
 by_cases hp : p = (65533, 1)
 ·simp [hp]
 ·simp [hp]
def n2v (l : List UInt8) : Nat := (at0 l 0 - 192) * 64 + (at0 l 1 - 128)
def n3v (l : List UInt8) : Nat := ((at0 l 0 - 224) * 64 + (at0 l 1 - 128)) * 64 + (at0 l 2 - 128)
def n4v (l : List UInt8) : Nat := (((at0 l 0 - 240) * 64 + (at0 l 1 - 128)) * 64 + (at0 l 2 - 128)) * 64 + (at0 l 3 - 128)
theorem next_one {l : List UInt8} (h : at0 l 0 < 128) : nextL l = (at0 l 0, 1) := by
 have e : dec l = (at0 l 0, 1) := by unfold dec decodeN; rw [if_pos h]
 rw [nextL_of e, if_neg]
 intro hh
 have := congrArg Prod.fst hh
 simp only at this
 omega
theorem next_none {l : List UInt8} (h : (128 ≤ at0 l 0 ∧ at0 l 0 < 194) ∨ 245 ≤ at0 l 0) : nextL l = (0, 0) := by
 have h0 := at0_lt l 0
 have h1 := at0_lt l 1
 have h2 := at0_lt l 2
 have h3 := at0_lt l 3
 have e : dec l = (65533, 1) := by
  unfold dec decodeN
  rw [if_neg (by omega)]
  split
  ·rw [if_neg (by omega)]
  split
  ·rw [if_neg (by omega)]
  split
  ·rw [if_neg (by omega)]
  ·rfl
 rw [nextL_of e, if_pos rfl]
theorem next_two {l : List UInt8} (a : 194 ≤ at0 l 0) (b : at0 l 0 < 224) :
  nextL l = if 2 ≤ l.length ∧ 128 ≤ at0 l 1 ∧ at0 l 1 < 192 then (n2v l, 2) else (0, 0) := by
 have h1 := at0_lt l 1
 by_cases hc : 2 ≤ l.length ∧ 128 ≤ at0 l 1 ∧ at0 l 1 < 192
 ·have e : dec l = (n2v l, 2) := by
   unfold dec decodeN n2v
   rw [if_neg (by omega), if_pos (by omega), if_pos (by omega)]
   exact congrArg (·, 2) (by omega)
  rw [nextL_of e, if_pos hc, if_neg (by intro hh; have := congrArg Prod.snd hh; simp at this)]
 ·have e : dec l = (65533, 1) := by
   unfold dec decodeN
   rw [if_neg (by omega), if_neg (by omega), if_neg (by omega), if_neg (by omega)]
  rw [nextL_of e, if_pos rfl, if_neg hc]
theorem next_three {l : List UInt8} (a : 224 ≤ at0 l 0) (b : at0 l 0 < 240) :
  nextL l = if 3 ≤ l.length ∧ (128 ≤ at0 l 1 ∧ at0 l 1 < 192) ∧ (128 ≤ at0 l 2 ∧ at0 l 2 < 192) ∧ 2048 ≤ n3v l ∧ (n3v l < 55296 ∨ 57344 ≤ n3v l) then (n3v l, 3) else (0, 0) := by
 have h1 := at0_lt l 1
 have h2 := at0_lt l 2
 by_cases hc : 3 ≤ l.length ∧ (128 ≤ at0 l 1 ∧ at0 l 1 < 192) ∧ (128 ≤ at0 l 2 ∧ at0 l 2 < 192) ∧ 2048 ≤ n3v l ∧ (n3v l < 55296 ∨ 57344 ≤ n3v l)
 ·have e : dec l = (n3v l, 3) := by
   have hn : n3v l = at0 l 0 % 16 * 4096 + at0 l 1 % 64 * 64 + at0 l 2 % 64 := by unfold n3v; omega
   unfold dec decodeN
   rw [if_neg (by omega), if_neg (by omega), if_pos (by omega), if_pos (by omega)]
   exact congrArg (·, 3) hn.symm
  rw [nextL_of e, if_pos hc, if_neg (by intro hh; have := congrArg Prod.snd hh; simp at this)]
 ·have e : dec l = (65533, 1) := by
   unfold dec decodeN
   rw [if_neg (by omega), if_neg (by omega)]
   split
   ·rename_i hd
    have hn : n3v l = at0 l 0 % 16 * 4096 + at0 l 1 % 64 * 64 + at0 l 2 % 64 := by unfold n3v; omega
    rw [if_neg (by omega)]
   ·rw [if_neg (by omega)]
  rw [nextL_of e, if_pos rfl, if_neg hc]
theorem next_four {l : List UInt8} (a : 240 ≤ at0 l 0) (b : at0 l 0 < 245) :
  nextL l = if 4 ≤ l.length ∧ (128 ≤ at0 l 1 ∧ at0 l 1 < 192) ∧ (128 ≤ at0 l 2 ∧ at0 l 2 < 192) ∧ (128 ≤ at0 l 3 ∧ at0 l 3 < 192) ∧ 65536 ≤ n4v l ∧ n4v l ≤ 1114111 then (n4v l, 4) else (0, 0) := by
 have h1 := at0_lt l 1
 have h2 := at0_lt l 2
 have h3 := at0_lt l 3
 by_cases hc : 4 ≤ l.length ∧ (128 ≤ at0 l 1 ∧ at0 l 1 < 192) ∧ (128 ≤ at0 l 2 ∧ at0 l 2 < 192) ∧ (128 ≤ at0 l 3 ∧ at0 l 3 < 192) ∧ 65536 ≤ n4v l ∧ n4v l ≤ 1114111
 ·have e : dec l = (n4v l, 4) := by
   have hn : n4v l = at0 l 0 % 8 * 262144 + at0 l 1 % 64 * 4096 + at0 l 2 % 64 * 64 + at0 l 3 % 64 := by unfold n4v; omega
   unfold dec decodeN
   rw [if_neg (by omega), if_neg (by omega), if_neg (by omega), if_pos (by omega), if_pos (by omega)]
   exact congrArg (·, 4) hn.symm
  rw [nextL_of e, if_pos hc, if_neg (by intro hh; have := congrArg Prod.snd hh; simp at this)]
 ·have e : dec l = (65533, 1) := by
   unfold dec decodeN
   rw [if_neg (by omega), if_neg (by omega), if_neg (by omega)]
   split
   ·rename_i hd
    have hn : n4v l = at0 l 0 % 8 * 262144 + at0 l 1 % 64 * 4096 + at0 l 2 % 64 * 64 + at0 l 3 % 64 := by unfold n4v; omega
    rw [if_neg (by omega)]
   ·rfl
  rw [nextL_of e, if_pos rfl, if_neg hc]
def tupI (p : Nat × Nat) : Value := .tuple #[.int .i64 p.1, .int .i64 p.2]
theorem ret_tupI {a b : Int} {p : Nat × Nat} (h1 : a = p.1) (h2 : b = p.2) : Ending.returned (.tuple #[.int .i64 a, .int .i64 b]) = .returned (tupI p) := by rw [h1, h2]; rfl
theorem ret_tupI_of {a b : Int} {p : Nat × Nat} {x y : Nat} (h : p = (x, y)) (h1 : a = (x : Int)) (h2 : b = (y : Int)) : Ending.returned (.tuple #[.int .i64 a, .int .i64 b]) = .returned (tupI p) := by rw [h, h1, h2]; rfl
theorem ret_tupI0 {p : Nat × Nat} (h : p = (0, 0)) : Ending.returned (.tuple #[.int .i64 0, .int .i64 0]) = .returned (tupI p) := by rw [h]; rfl
set_option maxHeartbeats 800000 in
set_option maxRecDepth 100000 in
theorem nextW_1 (s : ByteArray) (w : World) (hp : 0 < s.size) (h : at0 s.data.toList 0 < 128 ∨ (128 ≤ at0 s.data.toList 0 ∧ at0 s.data.toList 0 < 194) ∨ 245 ≤ at0 s.data.toList 0) :
  Calls Tryz.prog 147 #[.string s] w fun e w' => e = .returned (tupI (nextL s.data.toList)) ∧ w = w' := by
 have b0 := Lib.hid (at0_get s 0 hp)
 have l0 := at0_lt s.data.toList 0
 have hb := at0_get s 0 hp
 have hlt : (s[0]'hp).toNat < 256 := by omega
 rw [← hb] at h
 clear hb l0
 rcases h with h | h
 ·go_enter Tryz.func147, Tryz.ntmps147
  go_wp2
  go_ret2
  have e0 := b0.out
  refine ⟨ret_tupI ?_ ?_, rfl⟩ <;> rw [next_one (by omega)] <;> simp only <;> omega
 ·rcases h with h | h
  all_goals
   go_enter Tryz.func147, Tryz.ntmps147
   go_wp2
   all_goals go_ret2
   have e0 := b0.out
   exact ⟨ret_tupI0 (next_none (by omega)), rfl⟩
set_option maxHeartbeats 800000 in
set_option maxRecDepth 100000 in
theorem nextW_2short (s : ByteArray) (w : World) (a : 194 ≤ at0 s.data.toList 0) (b : at0 s.data.toList 0 < 224) (hp : s.size < 2) (hpos : 0 < s.size) :
  Calls Tryz.prog 147 #[.string s] w fun e w' => e = .returned (tupI (nextL s.data.toList)) ∧ w = w' := by
 have hsz := Lib.hid (Lib.size_eq s)
 have hb := at0_get s 0 hpos
 have hL := next_two (l := s.data.toList) a b
 rw [← hb] at a b
 have HL := Lib.hid hL
 clear hb hL
 go_enter Tryz.func147, Tryz.ntmps147
 go_wp2
 all_goals go_ret2
 have ez := hsz.out
 exact ⟨ret_tupI0 (by rw [HL.out, if_neg (by omega)]), rfl⟩
set_option maxHeartbeats 1600000 in
set_option maxRecDepth 100000 in
theorem nextW_2 (s : ByteArray) (w : World) (a : 194 ≤ at0 s.data.toList 0) (b : at0 s.data.toList 0 < 224) (hp : 2 ≤ s.size) :
  Calls Tryz.prog 147 #[.string s] w fun e w' => e = .returned (tupI (nextL s.data.toList)) ∧ w = w' := by
 have b0 := Lib.hid (at0_get s 0 (by omega))
 have b1 := Lib.hid (at0_get s 1 (by omega))
 have hsz := Lib.hid (Lib.size_eq s)
 have hb := at0_get s 0 (by omega)
 have hL := next_two (l := s.data.toList) a b
 rw [← hb] at a b
 have HL := Lib.hid hL
 clear hb hL
 go_enter Tryz.func147, Tryz.ntmps147
 go_wp2
 refine wp_loop_rounds 2 ?_
 rw [rounds_succ]
 go_wp2
 ·(go_ret2; have e0 := b0.out; have e1 := b1.out; have ez := hsz.out; exact ⟨ret_tupI0 (by rw [HL.out, if_neg (by omega)]), rfl⟩)
 rotate_left
 ·(go_ret2; have e0 := b0.out; have e1 := b1.out; have ez := hsz.out; exact ⟨ret_tupI0 (by rw [HL.out, if_neg (by omega)]), rfl⟩)
 rw [rounds_succ]
 go_wp2
 all_goals first | (go_ret2; have e0 := b0.out; have e1 := b1.out; have ez := hsz.out; have hq : nextL s.data.toList = (n2v s.data.toList, 2) := (by rw [HL.out, if_pos (by omega)]); refine ⟨ret_tupI_of hq ?_ ?_, rfl⟩; (unfold n2v; omega); rfl) | (go_ret2; have e0 := b0.out; have e1 := b1.out; have ez := hsz.out; exact ⟨ret_tupI0 (by rw [HL.out, if_neg (by omega)]), rfl⟩)
set_option maxHeartbeats 800000 in
set_option maxRecDepth 100000 in
theorem nextW_3short (s : ByteArray) (w : World) (a : 224 ≤ at0 s.data.toList 0) (b : at0 s.data.toList 0 < 240) (hp : s.size < 3) (hpos : 0 < s.size) :
  Calls Tryz.prog 147 #[.string s] w fun e w' => e = .returned (tupI (nextL s.data.toList)) ∧ w = w' := by
 have hsz := Lib.hid (Lib.size_eq s)
 have hb := at0_get s 0 hpos
 have hL := next_three (l := s.data.toList) a b
 rw [← hb] at a b
 have HL := Lib.hid hL
 clear hb hL
 go_enter Tryz.func147, Tryz.ntmps147
 go_wp2
 all_goals go_ret2
 have ez := hsz.out
 exact ⟨ret_tupI0 (by rw [HL.out, if_neg (by omega)]), rfl⟩
set_option maxHeartbeats 1600000 in
set_option maxRecDepth 100000 in
theorem nextW_3 (s : ByteArray) (w : World) (a : 224 ≤ at0 s.data.toList 0) (b : at0 s.data.toList 0 < 240) (hp : 3 ≤ s.size) :
  Calls Tryz.prog 147 #[.string s] w fun e w' => e = .returned (tupI (nextL s.data.toList)) ∧ w = w' := by
 have b0 := Lib.hid (at0_get s 0 (by omega))
 have b1 := Lib.hid (at0_get s 1 (by omega))
 have b2 := Lib.hid (at0_get s 2 (by omega))
 have hsz := Lib.hid (Lib.size_eq s)
 have hb := at0_get s 0 (by omega)
 have hL := next_three (l := s.data.toList) a b
 rw [← hb] at a b
 have HL := Lib.hid hL
 clear hb hL
 go_enter Tryz.func147, Tryz.ntmps147
 go_wp2
 refine wp_loop_rounds 3 ?_
 rw [rounds_succ]
 go_wp2
 ·(go_ret2; have e0 := b0.out; have e1 := b1.out; have e2 := b2.out; have ez := hsz.out; exact ⟨ret_tupI0 (by rw [HL.out, if_neg (by unfold n3v; omega)]), rfl⟩)
 rotate_left
 ·(go_ret2; have e0 := b0.out; have e1 := b1.out; have e2 := b2.out; have ez := hsz.out; exact ⟨ret_tupI0 (by rw [HL.out, if_neg (by unfold n3v; omega)]), rfl⟩)
 rw [rounds_succ]
 go_wp2
 ·(go_ret2; have e0 := b0.out; have e1 := b1.out; have e2 := b2.out; have ez := hsz.out; exact ⟨ret_tupI0 (by rw [HL.out, if_neg (by unfold n3v; omega)]), rfl⟩)
 rotate_left
 ·(go_ret2; have e0 := b0.out; have e1 := b1.out; have e2 := b2.out; have ez := hsz.out; exact ⟨ret_tupI0 (by rw [HL.out, if_neg (by unfold n3v; omega)]), rfl⟩)
 rw [rounds_succ]
 go_wp2
 all_goals first | (go_ret2; have e0 := b0.out; have e1 := b1.out; have e2 := b2.out; have ez := hsz.out; have hq : nextL s.data.toList = (n3v s.data.toList, 3) := (by rw [HL.out, if_pos (by unfold n3v; omega)]); refine ⟨ret_tupI_of hq ?_ ?_, rfl⟩; (unfold n3v; omega); rfl) | (go_ret2; have e0 := b0.out; have e1 := b1.out; have e2 := b2.out; have ez := hsz.out; exact ⟨ret_tupI0 (by rw [HL.out, if_neg (by unfold n3v; omega)]), rfl⟩)
set_option maxHeartbeats 800000 in
set_option maxRecDepth 100000 in
theorem nextW_4short (s : ByteArray) (w : World) (a : 240 ≤ at0 s.data.toList 0) (b : at0 s.data.toList 0 < 245) (hp : s.size < 4) (hpos : 0 < s.size) :
  Calls Tryz.prog 147 #[.string s] w fun e w' => e = .returned (tupI (nextL s.data.toList)) ∧ w = w' := by
 have hsz := Lib.hid (Lib.size_eq s)
 have hb := at0_get s 0 hpos
 have hL := next_four (l := s.data.toList) a b
 rw [← hb] at a b
 have HL := Lib.hid hL
 clear hb hL
 go_enter Tryz.func147, Tryz.ntmps147
 go_wp2
 all_goals go_ret2
 have ez := hsz.out
 exact ⟨ret_tupI0 (by rw [HL.out, if_neg (by omega)]), rfl⟩
set_option maxHeartbeats 1600000 in
set_option maxRecDepth 100000 in
theorem nextW_4 (s : ByteArray) (w : World) (a : 240 ≤ at0 s.data.toList 0) (b : at0 s.data.toList 0 < 245) (hp : 4 ≤ s.size) :
  Calls Tryz.prog 147 #[.string s] w fun e w' => e = .returned (tupI (nextL s.data.toList)) ∧ w = w' := by
 have b0 := Lib.hid (at0_get s 0 (by omega))
 have b1 := Lib.hid (at0_get s 1 (by omega))
 have b2 := Lib.hid (at0_get s 2 (by omega))
 have b3 := Lib.hid (at0_get s 3 (by omega))
 have hsz := Lib.hid (Lib.size_eq s)
 have hb := at0_get s 0 (by omega)
 have hL := next_four (l := s.data.toList) a b
 rw [← hb] at a b
 have HL := Lib.hid hL
 clear hb hL
 go_enter Tryz.func147, Tryz.ntmps147
 go_wp2
 refine wp_loop_rounds 4 ?_
 rw [rounds_succ]
 go_wp2
 ·(go_ret2; have e0 := b0.out; have e1 := b1.out; have e2 := b2.out; have e3 := b3.out; have ez := hsz.out; exact ⟨ret_tupI0 (by rw [HL.out, if_neg (by unfold n4v; omega)]), rfl⟩)
 rotate_left
 ·(go_ret2; have e0 := b0.out; have e1 := b1.out; have e2 := b2.out; have e3 := b3.out; have ez := hsz.out; exact ⟨ret_tupI0 (by rw [HL.out, if_neg (by unfold n4v; omega)]), rfl⟩)
 rw [rounds_succ]
 go_wp2
 ·(go_ret2; have e0 := b0.out; have e1 := b1.out; have e2 := b2.out; have e3 := b3.out; have ez := hsz.out; exact ⟨ret_tupI0 (by rw [HL.out, if_neg (by unfold n4v; omega)]), rfl⟩)
 rotate_left
 ·(go_ret2; have e0 := b0.out; have e1 := b1.out; have e2 := b2.out; have e3 := b3.out; have ez := hsz.out; exact ⟨ret_tupI0 (by rw [HL.out, if_neg (by unfold n4v; omega)]), rfl⟩)
 rw [rounds_succ]
 go_wp2
 ·(go_ret2; have e0 := b0.out; have e1 := b1.out; have e2 := b2.out; have e3 := b3.out; have ez := hsz.out; exact ⟨ret_tupI0 (by rw [HL.out, if_neg (by unfold n4v; omega)]), rfl⟩)
 rotate_left
 ·(go_ret2; have e0 := b0.out; have e1 := b1.out; have e2 := b2.out; have e3 := b3.out; have ez := hsz.out; exact ⟨ret_tupI0 (by rw [HL.out, if_neg (by unfold n4v; omega)]), rfl⟩)
 rw [rounds_succ]
 go_wp2
 all_goals first | (go_ret2; have e0 := b0.out; have e1 := b1.out; have e2 := b2.out; have e3 := b3.out; have ez := hsz.out; have hq : nextL s.data.toList = (n4v s.data.toList, 4) := (by rw [HL.out, if_pos (by unfold n4v; omega)]); refine ⟨ret_tupI_of hq ?_ ?_, rfl⟩; (unfold n4v; omega); rfl) | (go_ret2; have e0 := b0.out; have e1 := b1.out; have e2 := b2.out; have e3 := b3.out; have ez := hsz.out; exact ⟨ret_tupI0 (by rw [HL.out, if_neg (by unfold n4v; omega)]), rfl⟩)
theorem next_any (s : ByteArray) (w : World) (hp : 0 < s.size) :
  Calls Tryz.prog 147 #[.string s] w fun e w' => e = .returned (tupI (nextL s.data.toList)) ∧ w = w' := by
 by_cases c1 : at0 s.data.toList 0 < 194
 ·exact nextW_1 s w hp (by omega)
 by_cases c2 : at0 s.data.toList 0 < 224
 ·by_cases h : 2 ≤ s.size
  ·exact nextW_2 s w (by omega) c2 h
  ·exact nextW_2short s w (by omega) c2 (by omega) hp
 by_cases c3 : at0 s.data.toList 0 < 240
 ·by_cases h : 3 ≤ s.size
  ·exact nextW_3 s w (by omega) c3 h
  ·exact nextW_3short s w (by omega) c3 (by omega) hp
 by_cases c4 : at0 s.data.toList 0 < 245
 ·by_cases h : 4 ≤ s.size
  ·exact nextW_4 s w (by omega) c4 h
  ·exact nextW_4short s w (by omega) c4 (by omega) hp
 ·exact nextW_1 s w hp (by omega)
end Go.Proofs.YtmaknddlgppinaaGreatDoor
namespace Go.Proofs.YtmaknddlgppinaaGreatDoor
open Go.RowKit
/-- 'string' of a new slice of bytes that are written out. -/
theorem bytes_new (w : World) (n : Nat) (vs : List Value) (l : List UInt8) (hv : vs = bcells l) (hn : n = l.length) :
  (convert 166 9 (.slice (some ⟨w.heap.size, 0, none⟩) n n)).run Tryz.prog (w.alloc (.cells vs.toArray 5)) = .ok (strV l) (w.alloc (.cells vs.toArray 5)) := by
 subst hn hv
 refine run_convert_bytes_back (w.alloc (.cells (bcells l).toArray 5)) 166 9 5 ⟨w.heap.size, 0, none⟩ l.length l Tryz.underlying166 Tryz.underlying5 Tryz.underlying9 ?_
 intro j hj
 exact new_cells w (bcells l) 5 j _ (by simp [bcells, hj])
theorem byte_cell {x : Nat} {z : Int} (h : z = (x : Int)) (hx : x < 256) : Value.int .u8 z = .int .u8 ((UInt8.ofNat x).toNat : Int) := by
 subst h
 congr 1
 simp
 omega
theorem cells_1 {x : Nat} {z : Int} (h : z = (x : Int)) (hx : x < 256) : [Value.int .u8 z] = bcells (bs [x]) := by
 rw [byte_cell h hx]; rfl
theorem cells_2 {x y : Nat} {z u : Int} (h : z = (x : Int)) (hx : x < 256) (h2 : u = (y : Int)) (hy : y < 256) : [Value.int .u8 z, .int .u8 u] = bcells (bs [x, y]) := by
 rw [byte_cell h hx, byte_cell h2 hy]; rfl
theorem cells_3 {x y t : Nat} {z u v : Int} (h : z = (x : Int)) (hx : x < 256) (h2 : u = (y : Int)) (hy : y < 256) (h3 : v = (t : Int)) (ht : t < 256) : [Value.int .u8 z, .int .u8 u, .int .u8 v] = bcells (bs [x, y, t]) := by
 rw [byte_cell h hx, byte_cell h2 hy, byte_cell h3 ht]; rfl
/-- Sixteen bits in three bytes. -/
def th (r : Nat) : List UInt8 := bs [224 + r / 4096, 128 + r / 64 % 64, 128 + r % 64]
set_option maxRecDepth 1000000 in
set_option maxHeartbeats 400000 in
theorem three_any (z : Int) (h0 : 0 ≤ z) (h1 : z < 65536) (w : World) :
  Calls Tryz.prog 172 #[.int .i64 z] w fun e w' => e = .returned (strV (th z.toNat)) ∧ Below w.heap.size w w' := by
 have hcv := bytes_new w 3 [.int .u8 (224 + z / 4096), .int .u8 (128 + z / 64 % 64), .int .u8 (128 + z % 64)] (th z.toNat) (cells_3 (by omega) (by omega) (by omega) (by omega) (by omega) (by omega)) rfl
 generalize th z.toNat = l at *
 go_enter Tryz.func172, Tryz.ntmps172
 go_wp2
 go_ret
 exact ⟨rfl, (Below.refl _ _).alloc (Nat.le_refl _) _⟩
theorem un_th {r : Nat} (h : 2048 ≤ r) : un r = th r := by unfold un unN th; rw [if_neg (by omega), if_neg (by omega)]
theorem add_str (w : World) (a b : List UInt8) (h : a.length + b.length ≤ 1000000) : (binOp .add 9 (strV a) (strV b)).run Tryz.prog w = .ok (strV (a ++ b)) w := by
 have := run_string_add_lists (P := Tryz.prog) w a b (by omega) (by omega)
 simp only [binOp, strV]
 rw [this]
set_option maxRecDepth 1000000 in
set_option maxHeartbeats 400000 in
theorem Bytes_any (z : Int) (hz : 0 ≤ z) (hz2 : z ≤ 1114111) (w : World) :
  Calls Tryz.prog 146 #[.int .i64 z] w fun e w' => e = .returned (strV (mb z.toNat)) ∧ Below w.heap.size w w' := by
 by_cases h1 : 1 ≤ z ∧ z < 128
 ·obtain ⟨h1a, h1b⟩ := h1
  have hcv := bytes_new w 1 [.int .u8 z] (bs [z.toNat]) (cells_1 (by omega) (by omega)) rfl
  have e : mb z.toNat = bs [z.toNat] := by unfold mb un unN; rw [if_pos (by omega), if_pos (by omega)]
  rw [e]
  clear e
  generalize bs [z.toNat] = l at *
  go_enter Tryz.func146, Tryz.ntmps146
  go_wp2
  go_ret
  exact ⟨rfl, (Below.refl _ _).alloc (Nat.le_refl _) _⟩
 by_cases h2 : z < 2048
 ·have hcv := bytes_new w 2 [.int .u8 (192 + z / 64), .int .u8 (128 + z % 64)] (bs [192 + z.toNat / 64, 128 + z.toNat % 64]) (cells_2 (by omega) (by omega) (by omega) (by omega)) rfl
  have e : mb z.toNat = bs [192 + z.toNat / 64, 128 + z.toNat % 64] := by unfold mb un unN; rw [if_pos (by omega), if_neg (by omega), if_pos (by omega)]
  rw [e]
  clear e
  by_cases h0 : z = 0
  ·subst h0
   have hcv : (convert 166 9 (.slice (some ⟨w.heap.size, 0, none⟩) 2 2)).run Tryz.prog (w.alloc (.cells #[.int .u8 192, .int .u8 128] 5)) = .ok (strV (bs [192 + (0 : Int).toNat / 64, 128 + (0 : Int).toNat % 64])) (w.alloc (.cells #[.int .u8 192, .int .u8 128] 5)) := hcv
   generalize bs [192 + (0 : Int).toNat / 64, 128 + (0 : Int).toNat % 64] = l at *
   clear h1
   go_enter Tryz.func146, Tryz.ntmps146
   go_wp2
   go_ret
   exact ⟨rfl, (Below.refl _ _).alloc (Nat.le_refl _) _⟩
  ·have h128 : 128 ≤ z := by omega
   generalize bs [192 + z.toNat / 64, 128 + z.toNat % 64] = l at *
   clear h1 h0
   go_enter Tryz.func146, Tryz.ntmps146
   go_wp2
   go_ret
   exact ⟨rfl, (Below.refl _ _).alloc (Nat.le_refl _) _⟩
 by_cases h3 : z < 65536
 ·have e : mb z.toNat = th z.toNat := by unfold mb; rw [if_pos (by omega), un_th (by omega)]
  rw [e]
  have HT := Lib.hid (three_any z hz h3 w)
  have h128 : 2048 ≤ z := by omega
  clear e h1 h2
  go_enter Tryz.func146, Tryz.ntmps146
  go_wp2_with (go_at_call 172; refine HT.out.mono ?_; rintro e w' ⟨rfl, hb⟩)
  go_ret
  exact ⟨rfl, hb⟩
 ·have e : mb z.toNat = th (55296 + (z - 65536) / 1024).toNat ++ th (56320 + (z - 65536) % 1024).toNat := by
   unfold mb
   have e1 : 55296 + (z.toNat - 65536) / 1024 = (55296 + (z - 65536) / 1024).toNat := by omega
   have e2 : 56320 + (z.toNat - 65536) % 1024 = (56320 + (z - 65536) % 1024).toNat := by omega
   rw [if_neg (by omega), un_th (by omega), un_th (by omega), e1, e2]
  rw [e]
  have H1 := fun W => Lib.hid (three_any (55296 + (z - 65536) / 1024) (by omega) (by omega) W)
  have H2 := fun W => Lib.hid (three_any (56320 + (z - 65536) % 1024) (by omega) (by omega) W)
  have hadd := fun W => add_str W (th (55296 + (z - 65536) / 1024).toNat) (th (56320 + (z - 65536) % 1024).toNat) (by simp [th, bs])
  have h128 : 65536 ≤ z := by omega
  clear e h1 h2 h3
  generalize th (55296 + (z - 65536) / 1024).toNat = la at *
  generalize th (56320 + (z - 65536) % 1024).toNat = lb at *
  go_enter Tryz.func146, Tryz.ntmps146
  go_wp2_with fail
  refine (H1 _).out.mono ?_
  rintro e w1 ⟨rfl, hb1⟩
  go_wp2_with fail
  refine (H2 _).out.mono ?_
  rintro e w2 ⟨rfl, hb2⟩
  have hb := hb1.trans (hb2.mono hb1.size)
  clear hb1 hb2
  go_wp2
  go_ret
  exact ⟨rfl, hb⟩
end Go.Proofs.YtmaknddlgppinaaGreatDoor
