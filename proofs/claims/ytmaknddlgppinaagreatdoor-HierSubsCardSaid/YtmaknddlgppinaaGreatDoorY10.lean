/-
  CUT and joined from the texts of this seat: Hx Ic Id Ie Plain
-/
import Derived.Test.YtmaknddlgppinaaGreatDoorY06
import Derived.Test.YtmaknddlgppinaaGreatDoorY09
import Derived.Lib.DecodeN
import Derived.Laws.Cover4
set_option linter.unusedVariables false
set_option linter.unusedSimpArgs false
namespace Go.Proofs.YtmaknddlgppinaaGreatDoor
open Classical
theorem Ch.at_sle {cs : List PC} {i : Nat} {l : List Nat} (h : Ch cs i l) : ∀ {k p x y : Nat}, l[k]? = some x → l[p]? = some y → k ≤ p → Sle cs x y := by
 induction h with
 | last _ =>
  intro k p x y hx hy hkp
  have h1 : k = 0 := by have := (List.getElem?_eq_some_iff.1 hx).1; simpa using this
  have h2 : p = 0 := by have := (List.getElem?_eq_some_iff.1 hy).1; simpa using this
  subst h1; subst h2
  rw [hx] at hy; cases hy; exact .refl
 | @next i j l hs hl ih =>
  intro k p x y hx hy hkp
  cases k with
  | zero =>
   rw [List.getElem?_cons_zero] at hx
   cases hx
   exact (Ch.sle (.next hs hl)).1 (List.mem_of_getElem? hy)
  | succ k =>
   cases p with
   | zero => omega
   | succ p =>
    rw [List.getElem?_cons_succ] at hx hy
    exact ih hx hy (by omega)
/-- The first of a chain that is in the other one. -/
theorem mt_chain {cs : List PC} (G : Good cs) {i j : Nat} {l m : List Nat} (hl : Ch cs i l) (hm : Ch cs j m) {k x : Nat} (hk : l[k]? = some x) (hx : x ∈ m) (hf : ∀ p, p < k → ∀ y, l[p]? = some y → y ∉ m) : mt cs i j = x := by
 refine mt_eq G ⟨hl.sle.1 (List.mem_of_getElem? hk), hm.sle.1 hx, fun z h1 h2 => ?_⟩
 have hz := hl.sle.2 h1
 obtain ⟨p, hp, rfl⟩ := List.getElem_of_mem hz
 have hp' := List.getElem?_eq_getElem hp
 by_cases h : p < k
 ·exact absurd (hm.sle.2 h2) (hf p h _ hp')
 ·exact hl.at_sle hk hp' (by omega)
/-- A chain's next place. -/
theorem Ch.step_at {cs : List PC} {i : Nat} {l : List Nat} (h : Ch cs i l) : ∀ {k x : Nat}, l[k]? = some x → l[k + 1]? = sup cs x ∨ (sup cs x = none ∧ k + 1 = l.length) := by
 induction h with
 | last h =>
  intro k x hx
  have h1 : k = 0 := by have := (List.getElem?_eq_some_iff.1 hx).1; simpa using this
  subst h1
  cases hx
  exact .inr ⟨h, rfl⟩
 | @next i j l hs hl ih =>
  intro k x hx
  cases k with
  | zero =>
   rw [List.getElem?_cons_zero] at hx
   cases hx
   left
   rw [List.getElem?_cons_succ, hl.head, hs]
  | succ k =>
   rw [List.getElem?_cons_succ] at hx
   rcases ih hx with h | ⟨h1, h2⟩
   ·left; rw [List.getElem?_cons_succ]; exact h
   ·right; exact ⟨h1, by simp; omega⟩
theorem Ch.step_some {cs : List PC} {i : Nat} {l : List Nat} (h : Ch cs i l) {k x y : Nat} (hx : l[k]? = some x) (hs : sup cs x = some y) : l[k + 1]? = some y := by
 rcases h.step_at hx with h | ⟨h, _⟩
 ·rw [h, hs]
 ·rw [h] at hs; cases hs
theorem Ch.step_none {cs : List PC} {i : Nat} {l : List Nat} (h : Ch cs i l) {k x : Nat} (hx : l[k]? = some x) (hs : sup cs x = none) : k + 1 = l.length := by
 rcases h.step_at hx with h | ⟨_, h⟩
 ·rw [hs] at h
  have h1 := (List.getElem?_eq_some_iff.1 hx).1
  have h2 := List.getElem?_eq_none_iff.1 h
  omega
 ·exact h
theorem Ch.lt {cs : List PC} {i : Nat} {l : List Nat} (h : Ch cs i l) (hi : i < cs.length) {x : Nat} (hx : x ∈ l) : x < cs.length := by
 rcases h.mem hx with rfl | h
 ·exact hi
 ·exact h.lt.2
/-- The names of a chain. -/
def nms (cs : List PC) (l : List Nat) : List (List UInt8) := l.map fun i => match cs[i]? with
 | none => []
 | some c => c.name
/-- Whether j is directly above i. -/
def upB (cs : List PC) (i j : Nat) : Bool := match cs[i]? with
 | none => false
 | some c => decide (ix cs c.super = some j) || c.ifaces.any fun nm => decide (ix cs nm = some j)
theorem upB_iff {cs : List PC} {i j : Nat} : upB cs i j = true ↔ Up cs i j := by
 unfold upB Up
 cases hc : cs[i]? with
 | none => simp
 | some c => simp
/-- A number that falls at each step up shows that no class is above itself. -/
def falls (cs : List PC) (rk : List Nat) : Bool := (List.range cs.length).all fun i => (List.range cs.length).all fun j => !upB cs i j || decide ((rk[j]?).getD 0 < (rk[i]?).getD 0)
theorem falls_up {cs : List PC} {rk : List Nat} (h : falls cs rk = true) {i j : Nat} (hu : Up cs i j) : (rk[j]?).getD 0 < (rk[i]?).getD 0 := by
 unfold falls at h
 rw [List.all_eq_true] at h
 have h1 := h i (List.mem_range.2 hu.lt.1)
 rw [List.all_eq_true] at h1
 have h2 := h1 j (List.mem_range.2 hu.lt.2)
 rw [upB_iff.2 hu] at h2
 simpa using h2
theorem falls_abv {cs : List PC} {rk : List Nat} (h : falls cs rk = true) {i j : Nat} (hu : Abv cs i j) : (rk[j]?).getD 0 < (rk[i]?).getD 0 := by
 induction hu with
 | one hu => exact falls_up h hu
 | more hu _ ih => have := falls_up h hu; omega
theorem falls_acyc {cs : List PC} {rk : List Nat} (h : falls cs rk = true) (i : Nat) : ¬ Abv cs i i := fun hu => Nat.lt_irrefl _ (falls_abv h hu)
theorem firstR_all {cs : List PC} (k : Nat) (h : ∀ i, ¬ Abv cs i i) : ∀ n i, firstR cs k n i = none
 | 0, _ => rfl
 | n + 1, i => by unfold firstR; rw [if_neg (h _)]; exact firstR_all k h n (i + 1)
/-- Files that make a table. -/
theorem openP_of {cs ds : List PC} {fs : List FC} {rk : List Nat} (h0 : fs.length ≤ 64) (h1 : addP cs fs 0 = .inl ds) (h2 : ∀ c ∈ ds.drop cs.length, kindE ds c = 0) (h3 : falls ds rk = true) : openP cs fs = .inl ds := by
 have hE : ∀ (l : List PC) (i : Nat), (∀ c ∈ l, kindE ds c = 0) → firstE (kindE ds) l i = none := by
  intro l
  induction l with
  | nil => intro i _; rfl
  | cons c l ih => intro i h; unfold firstE; rw [if_neg (by rw [h c (by simp)]; simp)]; exact ih _ fun d hd => h d (by simp [hd])
 unfold openP
 rw [if_neg (by omega), h1]
 simp only
 rw [hE _ _ h2]
 simp only
 rw [firstR_all _ (falls_acyc h3)]
/-- kindE, so that it can be reckoned. -/
def kindB (cs : List PC) (c : PC) : Nat :=
 if (ix cs c.super).isNone || c.ifaces.any (fun nm => (ix cs nm).isNone) then 14
 else if isI cs c.super || decide (c.super = strB) || decide (c.super = weakB) || decide (c.super = loadB) || (c.iface && !decide (c.super = objB)) || c.ifaces.any (fun nm => !isI cs nm) then 17
 else 0
theorem kindB_eq (cs : List PC) (c : PC) : kindB cs c = kindE cs c := by
 unfold kindB kindE
 simp only [Bool.or_eq_true, List.any_eq_true, Option.isNone_iff_eq_none, Bool.and_eq_true, Bool.not_eq_true', decide_eq_true_eq, decide_eq_false_iff_not, or_assoc, ne_eq]
theorem ch_of {cs : List PC} : ∀ {l : List Nat} {i : Nat}, l[0]? = some i → (∀ k x, l[k]? = some x → sup cs x = l[k + 1]?) → Ch cs i l
 | [], i, h, _ => by cases h
 | [x], i, h, h2 => by
  cases h
  exact .last (h2 0 _ rfl)
 | x :: y :: l, i, h, h2 => by
  cases h
  refine .next (h2 0 _ rfl) (ch_of (l := y :: l) rfl fun k z hz => ?_)
  have := h2 (k + 1) z (by simpa using hz)
  simpa using this
end Go.Proofs.YtmaknddlgppinaaGreatDoor
namespace Go.Proofs.YtmaknddlgppinaaGreatDoor
open Go.RowKit
theorem und45c : Tryz.prog.underlying 45 = some (.slice 9) := by kernel_rfl
theorem info9 : ∃ i, Tryz.prog.info? 9 = some i ∧ i.zero = some (.string ⟨#[]⟩) ∧ i.size = 1 ∧ i.bytes = 16 := info_parts (by kernel_rfl)
section
variable {B tb mb cap ow : Nat} {A : Option Addr} {cs : List PC} {cl sl : Nat → Nat} {S : Nat → List Nat} {w : World}
/-- A row of texts that the call owns grows by one. -/
theorem OwnS.snoc {wr w3 : World} {base : Nat} {v v3 : Value} {ns : List (List UInt8)} {ss : List ByteArray} (h1 : ss.map (fun s => s.data.toList) = ns) (h2 : ∀ s ∈ ss, s.size ≤ 1000000) {s : ByteArray} {nm : List UInt8} (hs : s.data.toList = nm) (hz : s.size ≤ 1000000)
  (own3 : w3.ownsRow base 9 1 v3 (ss.length + 1) (scells ss ++ [.string s])) : OwnS w3 base v3 (ns ++ [nm]) := by
 refine ⟨ss ++ [s], by simp [h1, hs], ?_, ?_⟩
 ·intro t ht
  rcases List.mem_append.1 ht with ht | ht
  ·exact h2 t ht
  ·obtain rfl := List.mem_singleton.1 ht
   exact hz
 ·rw [List.length_append, List.length_singleton]
  unfold scells at own3 ⊢
  rw [List.map_append]
  exact own3
theorem Ch.nodup {cs : List PC} (G : Good cs) {i : Nat} {l : List Nat} (h : Ch cs i l) : l.Nodup := by
 induction h with
 | last _ => simp
 | @next i j l hs hl ih =>
  refine List.nodup_cons.2 ⟨fun hm => ?_, ih⟩
  rcases hl.mem hm with e | e
  ·exact G.acyc i (.one (by have := sup_up hs; rwa [← e] at this))
  ·exact G.acyc i (.more (sup_up hs) e)
theorem nms_snoc {cs : List PC} {l : List Nat} {j x : Nat} {c : PC} (hx : l[j]? = some x) (hc : cs[x]? = some c) : nms cs (l.take (j + 1)) = nms cs (l.take j) ++ [c.name] := by
 unfold nms
 rw [List.take_add_one, hx, List.map_append]
 simp [hc]
/-- Where a chain goes on: to its next class, or to none. -/
def nextP (cs : List PC) (cl : Nat → Nat) (l : List Nat) (k : Nat) : Value := ptrV cl (l[k]?)
set_option maxRecDepth 1000000 in
set_option maxHeartbeats 3200000 in
/-- The chain from a class on. -/
theorem Chain_any (h : HT B tb mb A cap ow cs cl sl S w) (s : ByteArray) (hs : s.size ≤ 1000000) :
  Calls Tryz.prog 31 #[.pointer (some ⟨tb, 0, none⟩), .string s] w fun e w' => ∃ v l, e = .returned v ∧ (∀ i, ix cs s.data.toList = some i → Ch cs i l) ∧ (ix cs s.data.toList = none → l = []) ∧ OwnS w' w.heap.size v (nms cs l) ∧ Below w.heap.size w w' := by
 obtain ⟨l, hl1, hl2⟩ : ∃ l, (∀ i, ix cs s.data.toList = some i → Ch cs i l) ∧ (ix cs s.data.toList = none → l = []) := by
  cases hx : ix cs s.data.toList with
  | none => exact ⟨[], fun i hi => (by cases hi), fun _ => rfl⟩
  | some i =>
   obtain ⟨l, hl⟩ := ch_some h.good.acyc _ i (Nat.le_refl _)
   exact ⟨l, fun j hj => (by cases hj; exact hl), fun hn => (by cases hn)⟩
 have hstart : ptrV cl (ix cs s.data.toList) = nextP cs cl l 0 := by
  unfold nextP
  cases hx : ix cs s.data.toList with
  | none => rw [hl2 hx]; rfl
  | some i => rw [(hl1 i hx).head]
 have hlt : ∀ x ∈ l, x < cs.length := fun x hx => by
  cases hi : ix cs s.data.toList with
  | none => rw [hl2 hi] at hx; cases hx
  | some i => exact (hl1 i hi).lt (ix_lt hi) hx
 have hnext : ∀ k x, l[k]? = some x → ptrV cl (sup cs x) = nextP cs cl l (k + 1) := fun k x hx => by
  unfold nextP
  cases hi : ix cs s.data.toList with
  | none => rw [hl2 hi] at hx; cases hx
  | some i =>
   cases hsx : sup cs x with
   | none =>
    have := (hl1 i hi).step_none hx hsx
    rw [List.getElem?_eq_none (by omega)]
   | some y => rw [(hl1 i hi).step_some hx hsx]
 have hll : l.length ≤ 1000 := by
  cases hi : ix cs s.data.toList with
  | none => rw [hl2 hi]; simp
  | some i =>
   have hnd : l.Nodup := (hl1 i hi).nodup h.good
   have := nodup_le hnd (m := List.range cs.length) (fun x hx => List.mem_range.2 (hlt x hx))
   have h2 := h.tab.few
   simp at this
   omega
 have c1 : w.cell? ⟨tb, 1, none⟩ = some (.map (some mb)) := by rw [kcells_of h.t0]; rfl
 have hlk : (Instr.lookup 110 (.map (some mb)) (.string s) false).run Tryz.prog w = .ok (nextP cs cl l 0) w := by
  rw [← hstart]
  exact h.map.look s (by unfold maxLen; omega)
 have H := Lib.hid h
 have HN := Lib.hid hnext
 have HLT := Lib.hid hlt
 have HL := Lib.hid (And.intro hl1 hl2)
 obtain ⟨i0, hi0, hz0, hz1, hz2⟩ := info9
 obtain ⟨p0, hp0⟩ : ∃ p, nextP cs cl l 0 = .pointer p := by unfold nextP; cases l[0]? <;> exact ⟨_, rfl⟩
 have HP0 := Lib.hid hp0
 rw [hp0] at hlk
 clear h hstart hlt hnext hl1 hl2 hp0
 go_enter Tryz.func31, Tryz.ntmps31
 go_wp2
 go_loopg [6, 5] l.length (fun gk iv vv wx => ∃ (j : Nat) (ss : List ByteArray), iv = nextP cs cl l j ∧ j + gk = l.length ∧ ss.map (fun s => s.data.toList) = nms cs (l.take j) ∧ (∀ s ∈ ss, s.size ≤ 1000000) ∧ wx.ownsRow w.heap.size 9 1 vv ss.length (scells ss) ∧ ss.length = j ∧ Below w.heap.size w wx)
 case atStart => exact ⟨0, [], HP0.out.symm, by omega, rfl, by simp, World.ownsRow_nil _ _ _ _, rfl, Below.refl _ _⟩
 case round =>
  obtain ⟨j, ss, rfl, hjg, hss, hsz, hown, hsl, hb⟩ := hrel
  have HB := Lib.hid hb
  have hbs := hb.size
  have h' := H.out.below (hb.mono H.out.hB)
  by_cases hj : j < l.length
  ·have hgg : gk - 1 < gk := by omega
   have hx := List.getElem?_eq_getElem hj
   generalize l[j] = x at hx
   have hxl := HLT.out x (List.mem_of_getElem? hx)
   have hcx := List.getElem?_eq_getElem hxl
   generalize cs[x] = c at hcx
   obtain ⟨k, k1, k2, k3, k4, k5, k6⟩ := h'.cls hcx
   have n0 : wr.cell? ⟨cl x, 0, none⟩ = some (.string k.name) := k1.cell 0
   have n8 : wr.cell? ⟨cl x, 8, none⟩ = some (nextP cs cl l (j + 1)) := by
    rw [← HN.out j x hx, sup_at hcx, ← k4]
    exact k1.cell 8
   have e0 : nextP cs cl l j = .pointer (some ⟨cl x, 0, none⟩) := by unfold nextP; rw [hx]; rfl
   rw [e0]
   obtain ⟨p1, hp1⟩ : ∃ p, nextP cs cl l (j + 1) = .pointer p := by unfold nextP; cases l[j + 1]? <;> exact ⟨_, rfl⟩
   rw [hp1] at n8
   have HP1 := Lib.hid hp1
   have HNM := Lib.hid (show k.name.data.toList = c.name from k2.nmd.nm)
   have HNZ := Lib.hid k2.nmd.nsz
   have HX := Lib.hid hx
   have HCX := Lib.hid hcx
   have HSS := Lib.hid hss
   have HSZ := Lib.hid hsz
   have HOWN := Lib.hid hown
   have hlt := lt_of_block k1
   have K1 := Lib.hid k1
   have HNE := Lib.hid (hown_ne hown k1 (by decide))
   have N8 := Lib.hid n8
   obtain ⟨a0, c0, rfl⟩ := hown_form hown
   have hsm : ss.length ≤ 1000 := by omega
   have hwz : w.heap.size ≤ wr.heap.size := hb.size
   clear h' k1 k2 k3 k4 k5 k6 e0 hp1 hss hsz hown hx hcx hb
   go_wp2_with (at_builtin; refine hwpList_append_own2 rfl (.tmp 19) (.tmp 25) 45 rfl w.heap.size 9 i0 (.string ⟨#[]⟩) 1 16 und45c hi0 hz0 hz1 hz2 rfl (by decide) (.slice a0 ss.length c0) ss.length _ rfl (World.ownsRow.alloc HOWN.out _) ⟨_, 0, none⟩ 1 1 [.string k.name] rfl rfl (knew_at _ [.string k.name] 9 _ (by simp)) (fun u hu => by simp at hu; subst hu; rfl) (by unfold maxLen; omega) (by omega) (by simp; omega) ?_; intro v3 w3 own3 hg3 hm3; obtain ⟨a3, c3, rfl⟩ := hown_form own3; have OW3 := Lib.hid own3; have HG3 := Lib.hid hg3; have K3 := grown_block hg3 (hheap_alloc_lt K1.out) HNE.out; have n83 : w3.cell? ⟨cl x, 8, none⟩ = some (.pointer p1) := by { have e1 := kcells_of K3 8; have e2 := N8.out; rw [kcells_of K1.out 8] at e2; rw [e1]; exact e2 }; clear own3 hg3 hm3 K3)
   go_roundg (gk - 1)
   case measure => exact hgg
   case rel =>
    have OW := OW3.out
    have e : (ss ++ [k.name]).length = j + 1 := by simp [hsl]
    refine ⟨j + 1, ss ++ [k.name], HP1.out.symm, by omega, ?_, ?_, ?_, e, ?_⟩
    ·rw [nms_snoc HX.out HCX.out, List.map_append, HSS.out, ← HNM.out]
     rfl
    ·intro t ht
     rcases List.mem_append.1 ht with ht | ht
     ·exact HSZ.out t ht
     ·obtain rfl := List.mem_singleton.1 ht
      exact HNZ.out
    ·rw [hsl] at OW
     rw [List.length_append, List.length_singleton, hsl]
     unfold scells at OW ⊢
     rw [List.map_append]
     exact OW
    ·exact Below.grown (HB.out.alloc hwz _) HG3.out (by simp; omega) (fun q hq => hown_block_ge HOWN.out q hq)
  ·obtain rfl : l.length = j := by omega
   have e0 : nextP cs cl l l.length = .pointer none := by unfold nextP; rw [List.getElem?_eq_none (Nat.le_refl _)]; rfl
   rw [e0]
   obtain ⟨a0, c0, rfl⟩ := hown_form hown
   have HSS := Lib.hid hss
   have HSZ := Lib.hid hsz
   have HOWN := Lib.hid hown
   clear e0 h' hss hsz hown hb
   go_wp2
   go_ret
   have e := HSS.out
   rw [List.take_length] at e
   exact ⟨_, l, rfl, HL.out.1, HL.out.2, ⟨ss, e, HSZ.out, HOWN.out⟩, HB.out⟩
end
section
variable {B tb mb cap ow : Nat} {A : Option Addr} {cs : List PC} {cl sl : Nat → Nat} {S : Nat → List Nat} {w : World}
/-- Where the row of all classes stands. -/
theorem HT.row (h : HT B tb mb A cap ow cs cl sl S w) : ∃ b o, A = some ⟨b, o, none⟩ ∧ b < B ∧ cs.length ≤ cap ∧ ∀ j, j < cs.length → w.cell? ⟨b, o + j, none⟩ = some (.pointer (some ⟨cl j, 0, none⟩)) := by
 obtain ⟨A', cap', e, h1, h2, h3⟩ := h.all
 injection e with e1 e2 e3
 subst e1; subst e3
 obtain ⟨b, o, e, hb, hc⟩ := h3.2 h.good.pos
 exact ⟨b, o, e, hb, h1, fun j hj => hc j _ (ptrs_at cl hj)⟩
end
theorem fset7 {w : World} {b : Nat} {x0 x1 x2 x3 x4 x5 x6 : Value} {t : TypeId} {m : Nat × Nat} (h : w.heap[b]? = some (.cells #[x0, x1, x2, x3, x4, x5, x6] t m)) (v0 v1 v2 v3 v4 v5 v6 : Value) :
  (((((((w.setCell ⟨b, 0, none⟩ v0).setCell ⟨b, 1, none⟩ v1).setCell ⟨b, 2, none⟩ v2).setCell ⟨b, 3, none⟩ v3).setCell ⟨b, 4, none⟩ v4).setCell ⟨b, 5, none⟩ v5).setCell ⟨b, 6, none⟩ v6).heap[b]? = some (.cells #[v0, v1, v2, v3, v4, v5, v6] t m) := by
 have h1 : (w.setCell ⟨b, 0, none⟩ v0).heap[b]? = some (.cells #[v0, x1, x2, x3, x4, x5, x6] t m) := by rw [heap_set_eq h]; rfl
 generalize w.setCell ⟨b, 0, none⟩ v0 = W0 at *
 have h2 : (W0.setCell ⟨b, 1, none⟩ v1).heap[b]? = some (.cells #[v0, v1, x2, x3, x4, x5, x6] t m) := by rw [heap_set_eq h1]; rfl
 generalize W0.setCell ⟨b, 1, none⟩ v1 = W1 at *
 have h3 : (W1.setCell ⟨b, 2, none⟩ v2).heap[b]? = some (.cells #[v0, v1, v2, x3, x4, x5, x6] t m) := by rw [heap_set_eq h2]; rfl
 generalize W1.setCell ⟨b, 2, none⟩ v2 = W2 at *
 have h4 : (W2.setCell ⟨b, 3, none⟩ v3).heap[b]? = some (.cells #[v0, v1, v2, v3, x4, x5, x6] t m) := by rw [heap_set_eq h3]; rfl
 generalize W2.setCell ⟨b, 3, none⟩ v3 = W3 at *
 have h5 : (W3.setCell ⟨b, 4, none⟩ v4).heap[b]? = some (.cells #[v0, v1, v2, v3, v4, x5, x6] t m) := by rw [heap_set_eq h4]; rfl
 generalize W3.setCell ⟨b, 4, none⟩ v4 = W4 at *
 have h6 : (W4.setCell ⟨b, 5, none⟩ v5).heap[b]? = some (.cells #[v0, v1, v2, v3, v4, v5, x6] t m) := by rw [heap_set_eq h5]; rfl
 generalize W4.setCell ⟨b, 5, none⟩ v5 = W5 at *
 rw [heap_set_eq h6]; rfl
theorem fbelow7 {B b : Nat} {a w : World} (h : Below B a w) (hb : B ≤ b) (v0 v1 v2 v3 v4 v5 v6 : Value) :
  Below B a (((((((w.setCell ⟨b, 0, none⟩ v0).setCell ⟨b, 1, none⟩ v1).setCell ⟨b, 2, none⟩ v2).setCell ⟨b, 3, none⟩ v3).setCell ⟨b, 4, none⟩ v4).setCell ⟨b, 5, none⟩ v5).setCell ⟨b, 6, none⟩ v6) :=
 ((((((h.setCell hb v0).setCell hb v1).setCell hb v2).setCell hb v3).setCell hb v4).setCell hb v5).setCell hb v6
section
variable {B tb mb cap ow : Nat} {A : Option Addr} {cs : List PC} {cl sl : Nat → Nat} {S : Nat → List Nat} {w : World}
def zeroCls : Value := .agg #[.string ⟨#[]⟩, .string ⟨#[]⟩, .slice none 0 0, .bool false, .bool false, .bool false, .int .i64 0]
/-- What Find answers. -/
def FindAns (cs : List PC) (ow : Nat) (nm : List UInt8) (w' : World) (e : Ending) : Prop :=
 (ix cs nm = none ∧ e = .returned (.tuple #[zeroCls, .bool false])) ∨
 ∃ i c, ∃ k : KC, ∃ ifn, ix cs nm = some i ∧ cs[i]? = some c ∧ Nmd k c ∧ SRow w'.heap.size w' ifn c.ifaces ∧ e = .returned (.tuple #[.agg #[.string k.name, .string k.super, ifn, .bool c.iface, .bool c.abs, .bool (decide (ow ≤ i)), .int .i64 c.at_], .bool true])
end
end Go.Proofs.YtmaknddlgppinaaGreatDoor
namespace Go.Proofs.YtmaknddlgppinaaGreatDoor
open Go.Lib (decodeN decode_at)
def at0 (l : List UInt8) (i : Nat) : Nat := (l.getD i 0).toNat
theorem at0_lt (l : List UInt8) (i : Nat) : at0 l i < 256 := UInt8.toNat_lt _
theorem at0_drop (l : List UInt8) (k i : Nat) : at0 (l.drop k) i = at0 l (k + i) := by simp [at0, List.getD, List.getElem?_drop]
/-- The first rune of l, and its width, as a range over a string tells them. -/
def dec (l : List UInt8) : Nat × Nat := decodeN l.length (at0 l 0) (at0 l 1) (at0 l 2) (at0 l 3)
theorem get_getD (s : ByteArray) (i : Nat) : (s.get! i) = s.data.toList.getD i 0 := by
 cases s with
 | mk d =>
  show d[i]! = d.toList.getD i 0
  by_cases h : i < d.size
  ·rw [getElem!_pos d i h]; simp [List.getD, h]
  ·rw [getElem!_neg d i h]; simp [List.getD, h]; rfl
theorem decode_drop (s : ByteArray) (pos : Nat) : Utf8.decode s pos = dec (s.data.toList.drop pos) := by
 rw [decode_at]
 have hz : s.size - pos = (s.data.toList.drop pos).length := by simp
 simp only [dec, at0_drop, hz]
 simp only [at0, get_getD, Nat.add_zero]
theorem decodeN_width (n b0 b1 b2 b3 : Nat) : 1 ≤ (decodeN n b0 b1 b2 b3).2 ∧ (decodeN n b0 b1 b2 b3).2 ≤ 4 ∧ (1 ≤ n → (decodeN n b0 b1 b2 b3).2 ≤ n) := by
 unfold decodeN
 repeat' split
 all_goals simp only
 all_goals omega
theorem dec_width (l : List UInt8) : 1 ≤ (dec l).2 ∧ (dec l).2 ≤ 4 := ⟨(decodeN_width _ _ _ _ _).1, (decodeN_width _ _ _ _ _).2.1⟩
theorem dec_width_le (l : List UInt8) (h : l ≠ []) : (dec l).2 ≤ l.length := (decodeN_width _ _ _ _ _).2.2 (List.length_pos_iff.2 h)
theorem decodeN_rune (n b0 b1 b2 b3 : Nat) (h0 : b0 < 256) : (decodeN n b0 b1 b2 b3).1 ≤ 1114111 := by
 unfold decodeN
 repeat' split
 all_goals simp only
 all_goals omega
theorem dec_rune (l : List UInt8) : (dec l).1 ≤ 1114111 := decodeN_rune _ _ _ _ _ (at0_lt _ _)
/-- A scalar value. -/
def Scal (r : Nat) : Prop := r < 55296 ∨ (57344 ≤ r ∧ r ≤ 1114111)
instance (r : Nat) : Decidable (Scal r) := by unfold Scal; infer_instance
theorem decodeN_scal (n b0 b1 b2 b3 : Nat) (h0 : b0 < 256) : Scal (decodeN n b0 b1 b2 b3).1 := by
 unfold decodeN Scal
 repeat' split
 all_goals simp only
 all_goals omega
theorem dec_scal (l : List UInt8) : Scal (dec l).1 := decodeN_scal _ _ _ _ _ (at0_lt _ _)
/-- The bytes of a rune in UTF-8 (numbers). -/
def u8N (r : Nat) : List Nat :=
 if r < 128 then [r] else if r < 2048 then [192 + r / 64, 128 + r % 64]
 else if r < 65536 then [224 + r / 4096, 128 + r / 64 % 64, 128 + r % 64]
 else [240 + r / 262144, 128 + r / 4096 % 64, 128 + r / 64 % 64, 128 + r % 64]
def bs (l : List Nat) : List UInt8 := l.map UInt8.ofNat
def u8 (r : Nat) : List UInt8 := bs (u8N r)
/-- Sixteen bits in modified UTF-8 (numbers). -/
def unN (r : Nat) : List Nat :=
 if 1 ≤ r ∧ r < 128 then [r] else if r < 2048 then [192 + r / 64, 128 + r % 64]
 else [224 + r / 4096, 128 + r / 64 % 64, 128 + r % 64]
def un (r : Nat) : List UInt8 := bs (unN r)
/-- The bytes of a rune in modified UTF-8. -/
def mb (r : Nat) : List UInt8 := if r < 65536 then un r else un (55296 + (r - 65536) / 1024) ++ un (56320 + (r - 65536) % 1024)
theorem bs_length (l : List Nat) : (bs l).length = l.length := by simp [bs]
theorem at0_bs (l : List Nat) (t : List UInt8) (i : Nat) (hi : i < l.length) (hb : ∀ x ∈ l, x < 256) : at0 (bs l ++ t) i = l[i] := by
 have h1 : i < (bs l).length := by simpa [bs] using hi
 have : l[i] < 256 := hb _ (List.getElem_mem hi)
 simp only [at0, List.getD, List.getElem?_append_left h1, List.getElem?_eq_getElem h1, Option.getD_some]
 simp [bs]
 omega
set_option maxHeartbeats 1000000 in
theorem dec_u8 (r : Nat) (t : List UInt8) (h : Scal r) : dec (u8 r ++ t) = (r, (u8 r).length) := by
 unfold Scal at h
 have key : ∀ l : List Nat, u8N r = l → (∀ x ∈ l, x < 256) → dec (u8 r ++ t) = decodeN (l.length + t.length) (at0 (bs l ++ t) 0) (at0 (bs l ++ t) 1) (at0 (bs l ++ t) 2) (at0 (bs l ++ t) 3) ∧ (u8 r).length = l.length := by
  rintro l rfl hb
  unfold dec u8
  simp [bs_length]
 by_cases h1 : r < 128
 ·obtain ⟨e, e2⟩ := key [r] (by simp [u8N, h1]) (by simp; omega)
  rw [e, e2, at0_bs _ _ 0 (by simp) (by simp; omega)]
  simp [decodeN, h1]
 by_cases h2 : r < 2048
 ·have hb : ∀ x ∈ [192 + r / 64, 128 + r % 64], x < 256 := by simp; omega
  obtain ⟨e, e2⟩ := key [192 + r / 64, 128 + r % 64] (by simp [u8N, h1, h2]) hb
  rw [e, e2, at0_bs _ _ 0 (by simp) hb, at0_bs _ _ 1 (by simp) hb]
  simp only [List.getElem_cons_zero, List.getElem_cons_succ, List.length_cons, List.length_nil]
  unfold decodeN
  repeat' split
  all_goals first | (exfalso; omega) | (apply Prod.ext <;> simp only <;> omega)
 by_cases h3 : r < 65536
 ·have hb : ∀ x ∈ [224 + r / 4096, 128 + r / 64 % 64, 128 + r % 64], x < 256 := by simp; omega
  obtain ⟨e, e2⟩ := key [224 + r / 4096, 128 + r / 64 % 64, 128 + r % 64] (by simp [u8N, h1, h2, h3]) hb
  rw [e, e2, at0_bs _ _ 0 (by simp) hb, at0_bs _ _ 1 (by simp) hb, at0_bs _ _ 2 (by simp) hb]
  simp only [List.getElem_cons_zero, List.getElem_cons_succ, List.length_cons, List.length_nil]
  unfold decodeN
  repeat' split
  all_goals first | (exfalso; omega) | (apply Prod.ext <;> simp only <;> omega)
 ·have hb : ∀ x ∈ [240 + r / 262144, 128 + r / 4096 % 64, 128 + r / 64 % 64, 128 + r % 64], x < 256 := by simp; omega
  obtain ⟨e, e2⟩ := key [240 + r / 262144, 128 + r / 4096 % 64, 128 + r / 64 % 64, 128 + r % 64] (by simp [u8N, h1, h2, h3]) hb
  rw [e, e2, at0_bs _ _ 0 (by simp) hb, at0_bs _ _ 1 (by simp) hb, at0_bs _ _ 2 (by simp) hb, at0_bs _ _ 3 (by simp) hb]
  simp only [List.getElem_cons_zero, List.getElem_cons_succ, List.length_cons, List.length_nil]
  unfold decodeN
  repeat' split
  all_goals first | (exfalso; omega) | (apply Prod.ext <;> simp only <;> omega)
/-- The bad step. -/
def bad (p : Nat × Nat) : Bool := decide (p = (65533, 1))
theorem split_one (l : List UInt8) (x0 : Nat) (hn : 1 ≤ l.length) (h0 : at0 l 0 = x0) : l = bs [x0] ++ l.drop 1 := by
 match l, hn with
 | a :: t, _ => subst h0; simp [bs, at0]
theorem split_two (l : List UInt8) (x0 x1 : Nat) (hn : 2 ≤ l.length) (h0 : at0 l 0 = x0) (h1 : at0 l 1 = x1) : l = bs [x0, x1] ++ l.drop 2 := by
 match l, hn with
 | a :: b :: t, _ => subst h0 h1; simp [bs, at0]
theorem split_three (l : List UInt8) (x0 x1 x2 : Nat) (hn : 3 ≤ l.length) (h0 : at0 l 0 = x0) (h1 : at0 l 1 = x1) (h2 : at0 l 2 = x2) : l = bs [x0, x1, x2] ++ l.drop 3 := by
 match l, hn with
 | a :: b :: c :: t, _ => subst h0 h1 h2; simp [bs, at0]
theorem split_four (l : List UInt8) (x0 x1 x2 x3 : Nat) (hn : 4 ≤ l.length) (h0 : at0 l 0 = x0) (h1 : at0 l 1 = x1) (h2 : at0 l 2 = x2) (h3 : at0 l 3 = x3) : l = bs [x0, x1, x2, x3] ++ l.drop 4 := by
 match l, hn with
 | a :: b :: c :: d :: t, _ => subst h0 h1 h2 h3; simp [bs, at0]
/-- What decodeN tells: bad, or one of four forms. -/
theorem decodeN_forms (n b0 b1 b2 b3 : Nat) (h0 : b0 < 256) (h1 : b1 < 256) (h2 : b2 < 256) (h3 : b3 < 256) (hn : 1 ≤ n) :
  decodeN n b0 b1 b2 b3 = (65533, 1) ∨
  (∃ r, decodeN n b0 b1 b2 b3 = (r, 1) ∧ r < 128 ∧ b0 = r) ∨
  (∃ r, decodeN n b0 b1 b2 b3 = (r, 2) ∧ 128 ≤ r ∧ r < 2048 ∧ 2 ≤ n ∧ b0 = 192 + r / 64 ∧ b1 = 128 + r % 64) ∨
  (∃ r, decodeN n b0 b1 b2 b3 = (r, 3) ∧ 2048 ≤ r ∧ r < 65536 ∧ 3 ≤ n ∧ b0 = 224 + r / 4096 ∧ b1 = 128 + r / 64 % 64 ∧ b2 = 128 + r % 64) ∨
  (∃ r, decodeN n b0 b1 b2 b3 = (r, 4) ∧ 65536 ≤ r ∧ r ≤ 1114111 ∧ 4 ≤ n ∧ b0 = 240 + r / 262144 ∧ b1 = 128 + r / 4096 % 64 ∧ b2 = 128 + r / 64 % 64 ∧ b3 = 128 + r % 64) := by
 unfold decodeN
 split
 ·exact .inr (.inl ⟨b0, rfl, by omega, rfl⟩)
 split
 ·split
  ·exact .inr (.inr (.inl ⟨_, rfl, by omega, by omega, by omega, by omega, by omega⟩))
  ·exact .inl rfl
 split
 ·split
  ·exact .inr (.inr (.inr (.inl ⟨_, rfl, by omega, by omega, by omega, by omega, by omega, by omega⟩)))
  ·exact .inl rfl
 split
 ·split
  ·exact .inr (.inr (.inr (.inr ⟨_, rfl, by omega, by omega, by omega, by omega, by omega, by omega, by omega⟩)))
  ·exact .inl rfl
 ·exact .inl rfl
theorem dec_take (l : List UInt8) (hne : l ≠ []) (hb : dec l ≠ (65533, 1)) : l = u8 (dec l).1 ++ l.drop (dec l).2 ∧ (u8 (dec l).1).length = (dec l).2 := by
 have hn : 1 ≤ l.length := List.length_pos_iff.2 hne
 unfold dec at hb ⊢
 rcases decodeN_forms l.length (at0 l 0) (at0 l 1) (at0 l 2) (at0 l 3) (at0_lt _ _) (at0_lt _ _) (at0_lt _ _) (at0_lt _ _) hn with h | ⟨r, h, a, b⟩ | ⟨r, h, a, a', n2, b, c⟩ | ⟨r, h, a, a', n3, b, c, d⟩ | ⟨r, h, a, a', n4, b, c, d, e⟩
 ·exact absurd h hb
 ·rw [h]
  have e1 : u8 r = bs [r] := by simp [u8, u8N, a]
  simp only [e1]
  exact ⟨split_one l r hn b, by simp [bs]⟩
 ·rw [h]
  have e1 : u8 r = bs [192 + r / 64, 128 + r % 64] := by simp [u8, u8N, a', show ¬ r < 128 by omega]
  simp only [e1]
  exact ⟨split_two l _ _ n2 b c, by simp [bs]⟩
 ·rw [h]
  have e1 : u8 r = bs [224 + r / 4096, 128 + r / 64 % 64, 128 + r % 64] := by simp [u8, u8N, a', show ¬ r < 128 by omega, show ¬ r < 2048 by omega]
  simp only [e1]
  exact ⟨split_three l _ _ _ n3 b c d, by simp [bs]⟩
 ·rw [h]
  have e1 : u8 r = bs [240 + r / 262144, 128 + r / 4096 % 64, 128 + r / 64 % 64, 128 + r % 64] := by simp [u8, u8N, show ¬ r < 65536 by omega, show ¬ r < 128 by omega, show ¬ r < 2048 by omega]
  simp only [e1]
  exact ⟨split_four l _ _ _ _ n4 b c d e, by simp [bs]⟩
def decs : Nat → List UInt8 → List (Nat × Nat)
 | 0, _ => []
 | f + 1, l => if l = [] then [] else dec l :: decs f (l.drop (dec l).2)
def steps (l : List UInt8) : List (Nat × Nat) := decs l.length l
theorem decs_fuel : ∀ (f g : Nat) (l : List UInt8), l.length ≤ f → l.length ≤ g → decs f l = decs g l
 | 0, 0, _, _, _ => rfl
 | 0, g + 1, l, h, _ => by
  have : l = [] := List.eq_nil_of_length_eq_zero (by omega)
  simp [decs, this]
 | f + 1, 0, l, _, h => by
  have : l = [] := List.eq_nil_of_length_eq_zero (by omega)
  simp [decs, this]
 | f + 1, g + 1, l, h1, h2 => by
  unfold decs
  by_cases hne : l = []
  ·simp [hne]
  ·have := (dec_width l).1
   have hp := List.length_pos_iff.2 hne
   rw [if_neg hne, if_neg hne, decs_fuel f g (l.drop (dec l).2) (by rw [List.length_drop]; omega) (by rw [List.length_drop]; omega)]
theorem steps_cons (l : List UInt8) (h : l ≠ []) : steps l = dec l :: steps (l.drop (dec l).2) := by
 have hp := List.length_pos_iff.2 h
 have := (dec_width l).1
 obtain ⟨n, hn⟩ : ∃ n, l.length = n + 1 := ⟨l.length - 1, by omega⟩
 unfold steps
 rw [hn]
 show (if l = [] then [] else _) = _
 rw [if_neg h, decs_fuel n (l.drop (dec l).2).length _ (by rw [List.length_drop]; omega) (Nat.le_refl _)]
theorem steps_length (l : List UInt8) : (steps l).length ≤ l.length := by
 have : ∀ (f : Nat) (l : List UInt8), (decs f l).length ≤ f := by
  intro f
  induction f with
  | zero => intro l; simp [decs]
  | succ f ih =>
   intro l
   unfold decs
   split
   ·simp
   ·simp; exact ih _
 exact this _ _
/-- Induction along the steps. -/
theorem steps_ind {p : List UInt8 → Prop} (hn : p []) (hc : ∀ l, l ≠ [] → p (l.drop (dec l).2) → p l) (l : List UInt8) : p l := by
 have : ∀ (n : Nat) (l : List UInt8), l.length ≤ n → p l := by
  intro n
  induction n with
  | zero => intro l h; rw [List.eq_nil_of_length_eq_zero (Nat.le_zero.1 h)]; exact hn
  | succ n ih =>
   intro l h
   by_cases hne : l = []
   ·rw [hne]; exact hn
   ·have := (dec_width l).1
    have hp := List.length_pos_iff.2 hne
    exact hc l hne (ih _ (by rw [List.length_drop]; omega))
 exact this _ l (Nat.le_refl _)
def validL (l : List UInt8) : Bool := (steps l).all fun p => !bad p
def runes (l : List UInt8) : List Nat := (steps l).map Prod.fst
theorem validL_nil : validL [] = true := rfl
theorem runes_nil : runes [] = [] := rfl
theorem validL_cons (l : List UInt8) (h : l ≠ []) : validL l = (!bad (dec l) && validL (l.drop (dec l).2)) := by
 simp [validL, steps_cons l h]
theorem runes_cons (l : List UInt8) (h : l ≠ []) : runes l = (dec l).1 :: runes (l.drop (dec l).2) := by
 simp [runes, steps_cons l h]
theorem runes_length_le (l : List UInt8) : (runes l).length ≤ l.length := by simpa [runes] using steps_length l
theorem runes_scal (l : List UInt8) : ∀ r ∈ runes l, Scal r := by
 refine steps_ind (p := fun l => ∀ r ∈ runes l, Scal r) (by simp [runes_nil]) ?_ l
 intro l hne ih r hr
 rw [runes_cons l hne] at hr
 rcases List.mem_cons.1 hr with rfl | h
 ·exact dec_scal l
 ·exact ih r h
/-- A text is the UTF-8 of its runes. -/
theorem valid_u8 (l : List UInt8) : validL l = true → (runes l).flatMap u8 = l := by
 refine steps_ind (p := fun l => validL l = true → (runes l).flatMap u8 = l) (by intro _; rfl) ?_ l
 intro l hne ih hv
 rw [validL_cons l hne] at hv
 simp only [Bool.and_eq_true, Bool.not_eq_true', bad, decide_eq_false_iff_not] at hv
 rw [runes_cons l hne, List.flatMap_cons, ih hv.2]
 exact (dec_take l hne hv.1).1.symm
theorem bad_u8 (r : Nat) (t : List UInt8) (h : Scal r) : bad (dec (u8 r ++ t)) = false := by
 rw [dec_u8 r t h]
 simp only [bad, decide_eq_false_iff_not, Prod.mk.injEq, not_and]
 rintro rfl
 decide
theorem un_length (r : Nat) : 1 ≤ (un r).length ∧ (un r).length ≤ 3 := by
 unfold un unN bs
 repeat' split
 all_goals simp
theorem mb_length (r : Nat) : 1 ≤ (mb r).length ∧ (mb r).length ≤ 6 := by
 unfold mb
 split
 ·have := un_length r; omega
 ·have := un_length (55296 + (r - 65536) / 1024); have := un_length (56320 + (r - 65536) % 1024); simp; omega
def encL (l : List UInt8) : List UInt8 := (runes l).flatMap mb
end Go.Proofs.YtmaknddlgppinaaGreatDoor
