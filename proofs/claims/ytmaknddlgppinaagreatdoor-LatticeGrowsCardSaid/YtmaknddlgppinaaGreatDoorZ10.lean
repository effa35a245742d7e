/-
  CUT and joined from the texts of this seat: Hi Hl
-/
import Derived.Test.YtmaknddlgppinaaGreatDoorZ09
import Derived.Deep.LoopGhost
import Derived.Deep.RegionLaw
set_option linter.unusedVariables false
set_option linter.unusedSimpArgs false
namespace Go.Proofs.YtmaknddlgppinaaGreatDoor
open Go.RowKit
/-- Where the first of n stands that g says yes to. -/
def FirstOf (g : Nat → Bool) (n : Nat) (r : Int) : Prop :=
 (∃ j : Nat, r = j ∧ j < n ∧ g j = true ∧ ∀ i, i < j → g i = false) ∨ (r = -1 ∧ ∀ i, i < n → g i = false)
theorem FirstOf.dec {g : Nat → Bool} {n : Nat} {r : Int} (h : FirstOf g n r) : decide (0 ≤ r) = true ↔ ∃ i, i < n ∧ g i = true := by
 rcases h with ⟨j, rfl, hj, hg, _⟩ | ⟨rfl, hn⟩
 ·simp; exact ⟨j, hj, hg⟩
 ·simp; exact fun i hi => hn i hi
theorem none_next {g : Nat → Bool} {j : Nat} (h : ∀ i, i < j → g i = false) (hj : g j = false) : ∀ i, i < j + 1 → g i = false := fun i hi => by
 rcases Nat.lt_or_eq_of_le (Nat.le_of_lt_succ hi) with h1 | rfl
 ·exact h i h1
 ·exact hj
set_option maxRecDepth 1000000 in
set_option maxHeartbeats 6400000 in
theorem indexFunc110 {n : Nat} {B : Nat} {v : Value} {xs : List Value} {g : Nat → Bool} {w : World} (hr : Row B 1 w v n xs)
  (key : ∀ j x, xs[j]? = some x → ∀ m, Calls Tryz.prog 110 #[x] (w.drewN m) fun e w' => e = .returned (.bool (g j)) ∧ ∃ m', w' = w.drewN m') :
  Calls Tryz.prog 82 #[v, .func (.func 110) #[] #[]] w fun e w' => ∃ r : Int, e = .returned (.int .i64 r) ∧ FirstOf g n r ∧ ∃ m, w' = w.drewN m := by
 obtain ⟨A, cap, rfl, hcap, hmax, hlen, hc⟩ := hr
 unfold maxLen at hmax
 have KEY := Lib.hid key
 have HL := Lib.hid hlen
 have HC := Lib.hid hc
 clear key hlen hc
 go_enter Tryz.func82, Tryz.ntmps82
 go_wp2
 go_loopg [8] n (fun gk iv wx => ∃ j : Nat, iv = .int .i64 j ∧ j + gk = n ∧ (∀ i, i < j → g i = false) ∧ ∃ m, wx = w.drewN m)
 case atStart => exact ⟨0, rfl, by omega, fun i hi => absurd hi (by omega), 0, rfl⟩
 case round =>
  obtain ⟨j, rfl, hjg, hall, m, rfl⟩ := hrel
  have HALL := Lib.hid hall
  clear hall
  by_cases hj : j < n
  ·have hgg : gk - 1 < gk := by omega
   obtain ⟨b, o, rfl, hb, hcell⟩ := HC.out (by omega)
   obtain ⟨x, hx⟩ : ∃ x, xs[j]? = some x := ⟨_, List.getElem?_eq_getElem (by have := HL.out; omega)⟩
   have c0 : (w.drewN m).cell? ⟨b, o + j, none⟩ = some x := hcell j x hx
   have K := Lib.hid (KEY.out j x hx m)
   clear hcell hx
   go_wp2_with fail
   refine K.out.mono ?_
   rintro e w1 ⟨rfl, m', rfl⟩
   clear c0
   cases hg : g j with
   | true =>
    have HG := Lib.hid hg
    clear hg
    go_wp2
    go_ret
    exact ⟨_, rfl, .inl ⟨j, rfl, hj, HG.out, HALL.out⟩, m', rfl⟩
   | false =>
    have HG := Lib.hid hg
    clear hg
    go_wp2
    go_roundg (gk - 1)
    case measure => exact hgg
    case rel => exact ⟨j + 1, by go_num, by omega, none_next HALL.out HG.out, m', rfl⟩
  ·obtain rfl : n = j := by omega
   go_wp2
   go_ret
   exact ⟨_, rfl, .inr ⟨rfl, HALL.out⟩, m, rfl⟩
set_option maxRecDepth 1000000 in
set_option maxHeartbeats 6400000 in
theorem containsFunc110 {n : Nat} {B : Nat} {v : Value} {xs : List Value} {g : Nat → Bool} {w : World} (hr : Row B 1 w v n xs)
  (key : ∀ j x, xs[j]? = some x → ∀ m, Calls Tryz.prog 110 #[x] (w.drewN m) fun e w' => e = .returned (.bool (g j)) ∧ ∃ m', w' = w.drewN m') :
  Calls Tryz.prog 109 #[v, .func (.func 110) #[] #[]] w fun e w' => ∃ c : Bool, e = .returned (.bool c) ∧ (c = true ↔ ∃ i, i < n ∧ g i = true) ∧ ∃ m, w' = w.drewN m := by
 have HI := Lib.hid (indexFunc110 hr key)
 obtain ⟨A, cap, rfl, hcap, hmax, hlen, hc⟩ := hr
 clear key hlen hc
 go_enter Tryz.func109, Tryz.ntmps109
 go_wp2_with fail
 refine HI.out.mono ?_
 rintro e w1 ⟨r, rfl, hf, m, rfl⟩
 have HD := Lib.hid hf.dec
 clear hf
 go_wp2
 go_ret
 exact ⟨_, rfl, HD.out, m, rfl⟩
set_option maxRecDepth 1000000 in
set_option maxHeartbeats 6400000 in
theorem indexFunc83 {n : Nat} {B : Nat} {v : Value} {xs : List Value} {g : Nat → Bool} {w : World} (hr : Row B 1 w v n xs)
  (key : ∀ j x, xs[j]? = some x → ∀ m, Calls Tryz.prog 83 #[x] (w.drewN m) fun e w' => e = .returned (.bool (g j)) ∧ ∃ m', w' = w.drewN m') :
  Calls Tryz.prog 82 #[v, .func (.func 83) #[] #[]] w fun e w' => ∃ r : Int, e = .returned (.int .i64 r) ∧ FirstOf g n r ∧ ∃ m, w' = w.drewN m := by
 obtain ⟨A, cap, rfl, hcap, hmax, hlen, hc⟩ := hr
 unfold maxLen at hmax
 have KEY := Lib.hid key
 have HL := Lib.hid hlen
 have HC := Lib.hid hc
 clear key hlen hc
 go_enter Tryz.func82, Tryz.ntmps82
 go_wp2
 go_loopg [8] n (fun gk iv wx => ∃ j : Nat, iv = .int .i64 j ∧ j + gk = n ∧ (∀ i, i < j → g i = false) ∧ ∃ m, wx = w.drewN m)
 case atStart => exact ⟨0, rfl, by omega, fun i hi => absurd hi (by omega), 0, rfl⟩
 case round =>
  obtain ⟨j, rfl, hjg, hall, m, rfl⟩ := hrel
  have HALL := Lib.hid hall
  clear hall
  by_cases hj : j < n
  ·have hgg : gk - 1 < gk := by omega
   obtain ⟨b, o, rfl, hb, hcell⟩ := HC.out (by omega)
   obtain ⟨x, hx⟩ : ∃ x, xs[j]? = some x := ⟨_, List.getElem?_eq_getElem (by have := HL.out; omega)⟩
   have c0 : (w.drewN m).cell? ⟨b, o + j, none⟩ = some x := hcell j x hx
   have K := Lib.hid (KEY.out j x hx m)
   clear hcell hx
   go_wp2_with fail
   refine K.out.mono ?_
   rintro e w1 ⟨rfl, m', rfl⟩
   clear c0
   cases hg : g j with
   | true =>
    have HG := Lib.hid hg
    clear hg
    go_wp2
    go_ret
    exact ⟨_, rfl, .inl ⟨j, rfl, hj, HG.out, HALL.out⟩, m', rfl⟩
   | false =>
    have HG := Lib.hid hg
    clear hg
    go_wp2
    go_roundg (gk - 1)
    case measure => exact hgg
    case rel => exact ⟨j + 1, by go_num, by omega, none_next HALL.out HG.out, m', rfl⟩
  ·obtain rfl : n = j := by omega
   go_wp2
   go_ret
   exact ⟨_, rfl, .inr ⟨rfl, HALL.out⟩, m, rfl⟩
theorem eqlIn_nil_ptr (W : World) (a : Addr) (d : Nat) : (Op.equalIn (d + 1) 108 (.pointer none) (.pointer (some a))).run Tryz.prog W = .ok false W := by
 have hu : Tryz.prog.underlying 108 = some (.pointer (Tryz.prog.pointee 108)) := by kernel_rfl
 simp [Op.equalIn, run_underlying hu]
theorem eql_nil_ptr (W : World) (a : Addr) : (binOp .eql 108 (.pointer none) (.pointer (some a))).run Tryz.prog W = .ok (.bool false) W := by
 have h : (Op.equal 108 (.pointer none) (.pointer (some a))).run Tryz.prog W = .ok false W := eqlIn_nil_ptr W a 9999
 simp only [binOp]
 simp [h]
set_option maxRecDepth 1000000 in
set_option maxHeartbeats 6400000 in
theorem indexNil_any {n B : Nat} {v : Value} {os : List (Option Nat)} {cl : Nat → Nat} {w : World} (hr : Row B 1 w v n (os.map (ptrV cl))) :
  Calls Tryz.prog 122 #[v, .pointer none] w fun e w' => ∃ r : Int, e = .returned (.int .i64 r) ∧ FirstOf (fun i => decide (os[i]? = some none)) n r ∧ w' = w := by
 obtain ⟨A, cap, rfl, hcap, hmax, hlen, hc⟩ := hr
 unfold maxLen at hmax
 have HL := Lib.hid hlen
 have HC := Lib.hid hc
 clear hlen hc
 have qn := eql_nil_ptr
 go_enter Tryz.func122, Tryz.ntmps122
 go_wp2
 go_loopg [8] n (fun gk iv wx => ∃ j : Nat, iv = .int .i64 j ∧ j + gk = n ∧ (∀ i, i < j → decide (os[i]? = some none) = false) ∧ wx = w)
 case atStart => exact ⟨0, rfl, by omega, fun i hi => absurd hi (by omega), rfl⟩
 case round =>
  obtain ⟨j, rfl, hjg, hall, rfl⟩ := hrel
  have HALL := Lib.hid hall
  clear hall
  by_cases hj : j < n
  ·have hgg : gk - 1 < gk := by omega
   obtain ⟨b, o, rfl, hb, hcell⟩ := HC.out (by omega)
   obtain ⟨x, hx⟩ : ∃ x, os[j]? = some x := ⟨_, List.getElem?_eq_getElem (by have := HL.out; simp at this; omega)⟩
   have c0 := hcell j (ptrV cl x) (by rw [List.getElem?_map, hx]; rfl)
   have HX := Lib.hid hx
   clear hcell hx
   cases x with
   | none =>
    change World.cell? _ _ = some (.pointer none) at c0
    go_wp2
    go_ret
    exact ⟨_, rfl, .inl ⟨j, rfl, hj, by show decide (os[j]? = some none) = true; rw [HX.out]; rfl, HALL.out⟩, rfl⟩
   | some y =>
    change World.cell? _ _ = some (.pointer (some ⟨cl y, 0, none⟩)) at c0
    go_wp2
    go_roundg (gk - 1)
    case measure => exact hgg
    case rel => exact ⟨j + 1, by go_num, by omega, none_next HALL.out (by show decide (os[j]? = some none) = false; rw [HX.out]; simp), rfl⟩
  ·obtain rfl : n = j := by omega
   go_wp2
   go_ret
   exact ⟨_, rfl, .inr ⟨rfl, HALL.out⟩, rfl⟩
set_option maxRecDepth 1000000 in
set_option maxHeartbeats 6400000 in
theorem containsNil_any {n B : Nat} {v : Value} {os : List (Option Nat)} {cl : Nat → Nat} {w : World} (hr : Row B 1 w v n (os.map (ptrV cl))) :
  Calls Tryz.prog 107 #[v, .pointer none] w fun e w' => ∃ c : Bool, e = .returned (.bool c) ∧ (c = true ↔ none ∈ os) ∧ w' = w := by
 have HI := Lib.hid (indexNil_any hr)
 obtain ⟨A, cap, rfl, hcap, hmax, hlen, hc⟩ := hr
 have hn : n = os.length := by simpa using hlen.symm
 have HN := Lib.hid hn
 clear hlen hc hn
 go_enter Tryz.func107, Tryz.ntmps107
 go_wp2_with fail
 refine HI.out.mono ?_
 rintro e w1 ⟨r, rfl, hf, rfl⟩
 have HD := Lib.hid hf.dec
 clear hf
 go_wp2
 go_ret
 refine ⟨_, rfl, HD.out.trans ?_, rfl⟩
 rw [List.mem_iff_getElem?]
 constructor
 ·rintro ⟨i, _, h⟩; exact ⟨i, by simpa using h⟩
 ·rintro ⟨i, h⟩
  have h2 := (List.getElem?_eq_some_iff.1 h).1
  exact ⟨i, by have := HN.out; omega, by simpa using h⟩
def KC.link (k : KC) (u v : Value) : KC := { k with up := u, ifs := v }
/-- The links of a class, so far: j of its interfaces. -/
structure LI (cs : List PC) (cl : Nat → Nat) (cb : Nat) (k : KC) (c : PC) (w : World) (j : Nat) (v : Value) (wr : World) : Prop where
 upd : Upd [cb] w wr
 at_ : KAt cb (k.link (ptrV cl (ix cs c.super)) v) wr
 own : wr.ownsRow w.heap.size 108 1 v j ((c.ifaces.take j).map fun nm => ptrV cl (ix cs nm))
theorem KAt.setUp {c : Nat} {k : KC} {w : World} (h : KAt c k w) (u : Value) : KAt c { k with up := u } (w.setCell ⟨c, 8, none⟩ u) := by
 unfold KAt
 rw [heap_set_eq h]
 simp [KC.cells]
theorem KAt.setIfs {c : Nat} {k : KC} {w : World} (h : KAt c k w) (u : Value) : KAt c { k with ifs := u } (w.setCell ⟨c, 9, none⟩ u) := by
 unfold KAt
 rw [heap_set_eq h]
 simp [KC.cells]
theorem upd_cell {S : List Nat} {w w' : World} (h : Upd S w w') {b i : Nat} (hn : b ∉ S) (hb : b < w.heap.size) : w'.cell? ⟨b, i, none⟩ = w.cell? ⟨b, i, none⟩ := by
 have := h.block b hb hn
 unfold World.cell?
 rw [this]
theorem LI.row_ne {w : World} {base cb : Nat} {k : KC} {ns : List (List UInt8)} (h : OwnS w base k.ifn ns) (hk : KAt cb k w) {b o n c : Nat} (hi : k.ifn = .slice (some ⟨b, o, none⟩) n c) (hb : b < w.heap.size) : b ≠ cb := by
 obtain ⟨ss, _, _, ho⟩ := h
 have := hown_ne ho hk (by decide)
 rw [hi] at this
 simpa [Value.ownBlock] using this
theorem Upd.grown {S : List Nat} {w w2 w3 : World} (h : Upd S w w2) {v : Value} (hg : w2.grownBy w3 v.ownBlock) (hge : ∀ g, v.ownBlock = some g → w.heap.size ≤ g) : Upd S w w3 :=
 ⟨hg.os.trans h.os, hg.tape.trans h.tape, hg.output.trans h.output, Nat.le_trans h.size hg.size, fun i hi hn => (hg.block i (Nat.lt_of_lt_of_le hi h.size) (fun e => by have := hge i e.symm; omega)).trans (h.block i hi hn)⟩
theorem Upd.alloc {S : List Nat} {w w2 : World} (h : Upd S w w2) (o : Obj) : Upd S w (w2.alloc o) :=
 ⟨h.os, h.tape, h.output, by have := h.size; simp; omega, fun i hi hn => (Below.heap_alloc _ _ _ (Nat.lt_of_lt_of_le hi h.size)).trans (h.block i hi hn)⟩
theorem LI.next {cs : List PC} {cl : Nat → Nat} {cb : Nat} {k : KC} {c : PC} {w : World} {j : Nat} {v : Value} {wr : World} (h : LI cs cl cb k c w j v wr) {nm : List UInt8} (hx : c.ifaces[j]? = some nm) {q2 : Option Addr} (hq : ptrV cl (ix cs nm) = .pointer q2)
  {w3 : World} {v3 : Value} (hg : (wr.alloc (.cells #[.pointer q2] 108)).drew.grownBy w3 v.ownBlock) (own3 : w3.ownsRow w.heap.size 108 1 v3 (j + 1) (((c.ifaces.take j).map fun nm => ptrV cl (ix cs nm)) ++ [.pointer q2]))
  (k3 : KAt cb (k.link (ptrV cl (ix cs c.super)) v) w3) : LI cs cl cb k c w (j + 1) v3 (w3.setCell ⟨cb, 9, none⟩ v3) := by
 have u3 : Upd [cb] w w3 := Upd.grown (((h.upd.alloc (.cells #[.pointer q2] 108))).drewN 1) hg (hown_block_ge h.own)
 refine ⟨u3.trans (Upd.set (by simp)), k3.setIfs v3, ?_⟩
 have e : (c.ifaces.take (j + 1)).map (fun nm => ptrV cl (ix cs nm)) = ((c.ifaces.take j).map fun nm => ptrV cl (ix cs nm)) ++ [.pointer q2] := by
  rw [List.take_add_one, hx]
  simp [hq]
 rw [e]
 exact hown_but own3 ((HBut.refl cb cb w3).set cb (.inl rfl)) (hown_ne own3 k3 (by decide)) (hown_ne own3 k3 (by decide))
theorem kindE_14 {cs : List PC} {c : PC} (h : ix cs c.super = none ∨ none ∈ c.ifaces.map (ix cs)) : kindE cs c = 14 := by
 unfold kindE
 rw [if_pos]
 rcases h with h | h
 ·exact .inl h
 ·obtain ⟨nm, h1, h2⟩ := List.mem_map.1 h
  exact .inr ⟨nm, h1, h2⟩
theorem kindE_17 {cs : List PC} {c : PC} (h : ix cs c.super ≠ none) (h2 : none ∉ c.ifaces.map (ix cs)) (h3 : isI cs c.super = true ∨ c.super = strB ∨ c.super = weakB ∨ c.super = loadB ∨ (c.iface = true ∧ c.super ≠ objB) ∨ (∃ nm ∈ c.ifaces, isI cs nm = false)) : kindE cs c = 17 := by
 unfold kindE
 rw [if_neg, if_pos h3]
 rintro (e | ⟨nm, h1, e⟩)
 ·exact h e
 ·exact h2 (List.mem_map.2 ⟨nm, h1, e⟩)
theorem kindE_0 {cs : List PC} {c : PC} (h : ix cs c.super ≠ none) (h2 : none ∉ c.ifaces.map (ix cs)) (h3 : ¬ (isI cs c.super = true ∨ c.super = strB ∨ c.super = weakB ∨ c.super = loadB ∨ (c.iface = true ∧ c.super ≠ objB) ∨ (∃ nm ∈ c.ifaces, isI cs nm = false))) : kindE cs c = 0 := by
 unfold kindE
 rw [if_neg, if_neg h3]
 rintro (e | ⟨nm, h1, e⟩)
 ·exact h e
 ·exact h2 (List.mem_map.2 ⟨nm, h1, e⟩)
theorem LI.all {cs : List PC} {cl : Nat → Nat} {cb : Nat} {k : KC} {c : PC} {w : World} {j : Nat} {v : Value} {wr : World} (h : LI cs cl cb k c w j v wr) (hk : KAt cb k w) {i : Nat} {d : PC} (ha : ∃ ki, KAt (cl i) ki w ∧ ki.iface = d.iface) : ∃ ki, KAt (cl i) ki wr ∧ ki.iface = d.iface := by
 obtain ⟨ki, h1, h2⟩ := ha
 by_cases e : cl i = cb
 ·refine ⟨_, e ▸ h.at_, ?_⟩
  rw [e] at h1
  have a := h1.cell 3
  rw [hk.cell 3] at a
  have : k.iface = ki.iface := by
   simp only [KC.cells, List.getElem?_cons_succ, List.getElem?_cons_zero, Option.some.injEq, Value.bool.injEq] at a
   exact a
  rw [← h2, ← this]
  rfl
 ·exact ⟨ki, (h.upd.block _ (lt_of_block h1) (by simpa using e)).trans h1, h2⟩
set_option maxRecDepth 1000000 in
set_option maxHeartbeats 6400000 in
theorem linkUp_any {nb mb : Nat} {v0 : Value} {o : Int} {cs : List PC} {cl : Nat → Nat} {w : World} (t0 : w.heap[nb]? = some (.cells #[v0, .map (some mb), .int .i64 o] 112 (0, 0))) (hm : TMap mb cs cl w)
    {cb : Nat} {k : KC} (hk : KAt cb k w) (c : PC) (hn : Nmd k c) {base : Nat} (hrow : OwnS w base k.ifn c.ifaces) (h0 : k.ifs = .slice none 0 0) (hlen : c.ifaces.length ≤ 1000)
    (hall : ∀ j d, cs[j]? = some d → ∃ kj, KAt (cl j) kj w ∧ kj.iface = d.iface) :
    Calls Tryz.prog 80 #[.pointer (some ⟨nb, 0, none⟩), .pointer (some ⟨cb, 0, none⟩)] w fun e w' =>
      e = .returned (.int .i64 (kindE cs c : Int)) ∧ Upd [cb] w w' ∧ (kindE cs c = 0 → ∃ v, LI cs cl cb k c w c.ifaces.length v w') := by
  have hne : nb ≠ cb := fun e => by
    unfold KAt at hk
    rw [← e, t0] at hk
    have := congrArg (fun o => match o with | some (Obj.cells _ t _) => t | _ => 0) hk
    cases this
  have hmne : mb ≠ cb := fun e => by
    obtain ⟨es, n, h⟩ := hm.obj
    unfold KAt at hk
    rw [← e, h] at hk
    cases hk
  have c1 : w.cell? ⟨nb, 1, none⟩ = some (.map (some mb)) := by rw [kcells_of t0]; rfl
  have k1 : w.cell? ⟨cb, 1, none⟩ = some (.string k.super) := hk.cell 1
  have k8 : w.cell? ⟨cb, 8, none⟩ = some k.up := hk.cell 8
  have f8 : w.frozen? ⟨cb, 8, none⟩ = false := kfree_of hk 8
  have hl := (hm.same (w' := w.drew) rfl).look k.super (by have := hn.ssz; unfold maxLen; omega)
  rw [show k.super.data.toList = c.super from hn.sp] at hl
  have HM := Lib.hid hm
  have HK := Lib.hid hk
  have HT := Lib.hid t0
  have HN := Lib.hid hn
  have HROW := Lib.hid hrow
  have HALL := Lib.hid hall
  obtain ⟨ai, ci, hi⟩ := hrow.form
  have hnlt := lt_of_block t0
  have hclt := lt_of_block hk
  have start : ∀ W, W = w.drew.setCell ⟨cb, 8, none⟩ (ptrV cl (ix cs c.super)) → LI cs cl cb k c w 0 (.slice none 0 0) W := by
    rintro W rfl
    refine ⟨((Upd.refl [cb] w).drewN 1).trans (Upd.set (w := w.drew) (by simp)), ?_, World.ownsRow_nil _ _ _ _⟩
    have := KAt.setUp (w := w.drew) hk (ptrV cl (ix cs c.super))
    unfold KC.link
    rw [← h0]
    exact this
  have START := Lib.hid start
  obtain ⟨i0, hi0, hz0, hz1, hz2⟩ := info108
  obtain ⟨q, hq⟩ : ∃ q, ptrV cl (ix cs c.super) = .pointer q := by cases ix cs c.super <;> exact ⟨_, rfl⟩
  rw [hq] at hl
  have HQ := Lib.hid hq
  have c2 : w.cell? ⟨cb, 2, none⟩ = some (.slice ai c.ifaces.length ci) := by rw [hk.cell 2, ← hi]; rfl
  clear hm t0 hn hrow hall start hk hq
  go_enter Tryz.func80, Tryz.ntmps80
  go_wp2
  go_region
  go_wp2
  go_loopg [26] c.ifaces.length (fun gk iv wx => ∃ (j : Nat) (v : Value), iv = .int .i64 j ∧ j + gk = c.ifaces.length ∧ LI cs cl cb k c w j v wx)
  case atStart => exact ⟨0, _, rfl, by omega, START.out _ (by rw [HQ.out]; rfl)⟩
  case round =>
    obtain ⟨j, v, rfl, hjg, hL⟩ := hrel
    have HL := Lib.hid hL
    obtain ⟨a9, cp9, rfl⟩ := hown_form hL.own
    by_cases hj : j < c.ifaces.length
    · have hgg : gk - 1 < gk := by omega
      have hx := List.getElem?_eq_getElem hj
      generalize c.ifaces[j] = nm at hx
      obtain ⟨b, ob, s, rfl, hb, cn, hsn, hsz⟩ := SRow.at_ (by have := HROW.out.row; rw [hi] at this; exact this) hx
      have hbne : b ≠ cb := LI.row_ne HROW.out HK.out hi hb
      have cn' : wr.cell? ⟨b, ob + j, none⟩ = some (.string s) := by
        rw [← cn]
        exact upd_cell hL.upd (by simpa using hbne) hb
      have c9 : wr.cell? ⟨cb, 9, none⟩ = some (.slice a9 j cp9) := hL.at_.cell 9
      have f9 : wr.frozen? ⟨cb, 9, none⟩ = false := kfree_of hL.at_ 9
      have cm : wr.cell? ⟨nb, 1, none⟩ = some (.map (some mb)) := by
        rw [← c1]
        exact upd_cell hL.upd (by simpa using hne) hnlt
      have hlook := ((HM.out.stay hL.upd (by simpa using hmne)).same (w' := wr.drew) rfl).look s (by unfold maxLen; omega)
      rw [hsn] at hlook
      obtain ⟨q2, hq2⟩ : ∃ q, ptrV cl (ix cs nm) = .pointer q := by cases ix cs nm <;> exact ⟨_, rfl⟩
      rw [hq2] at hlook
      have HX := Lib.hid hx
      have HQ2 := Lib.hid hq2
      have HLK := Lib.hid (show ∀ n, (Instr.lookup 110 (.map (some mb)) (.string s) false).run Tryz.prog (wr.drewN n) = .ok (.pointer q2) (wr.drewN n) from fun n => by rw [← hq2, ← hsn]; exact ((HM.out.stay hL.upd (by simpa using hmne)).same (w' := wr.drewN n) rfl).look s (by unfold maxLen; omega))
      have HLK2 := Lib.hid hlook
      clear cn hx hq2 hlook
      have hbs := hL.upd.size
      have hcl9 : cb < wr.heap.size := lt_of_block hL.at_
      have hn9 := hown_ne hL.own hL.at_ (by decide)
      have HN9 := Lib.hid hn9
      clear hL hn9
      go_wp2
      have hl2 : ∀ n, (Instr.lookup 110 (.map (some mb)) (.string s) false).run Tryz.prog (wr.drewN n) = .ok (.pointer q2) (wr.drewN n) := HLK.out
      have hl3 := HLK2.out
      have c9a : ∀ (n : Nat) (o : Obj), ((wr.drewN n).alloc o).cell? ⟨cb, 9, none⟩ = some (.slice a9 j cp9) := fun n o => (World.cell?_alloc_lt _ _ _ hcl9).trans c9
      have c9b : ∀ (o : Obj), (wr.drew.alloc o).cell? ⟨cb, 9, none⟩ = some (.slice a9 j cp9) := fun o => c9a 1 o
      go_region_law (first
        | (refine hstep_append_own2 rfl (.tmp 34) (.tmp 41) 109 rfl w.heap.size 108 i0 (.pointer none) 1 8 und109 hi0 hz0 hz1 hz2 rfl (by decide) (.slice a9 j cp9) j _ rfl (World.ownsRow.alloc HL.out.own _) ⟨_, 0, none⟩ 1 1 [.pointer q2] rfl rfl (knew_at _ [.pointer q2] 108 _ (by simp)) (fun u hu => by simp at hu; subst hu; rfl) (by unfold maxLen; omega) (by omega) (by simp; omega) ?_
           intro v3 w3 own3 hg3 hm3
           have K3 := grown_block hg3 (hheap_alloc_lt HL.out.at_) HN9.out
           have c93 := kcells_of K3 9
           have f93 := kfree_of K3 9
           rw [show (k.link (ptrV cl (ix cs c.super)) (.slice a9 j cp9)).cells.toArray[9]? = some (.slice a9 j cp9) from rfl] at c93
           obtain ⟨a3, c3, rfl⟩ := hown_form own3
           have OW3 := Lib.hid own3
           have HG3 := Lib.hid hg3
           have K3' := Lib.hid K3
           clear own3 hg3 hm3 K3))
      all_goals
        go_wp2
        go_roundg (gk - 1)
        case measure => exact hgg
        case rel => exact ⟨j + 1, _, by go_num, by omega, HL.out.next HX.out HQ2.out HG3.out OW3.out K3'.out⟩
    · obtain rfl : c.ifaces.length = j := by omega
      have hU := Lib.hid hL.upd
      have hrw : Row wr.heap.size 1 wr (.slice a9 c.ifaces.length cp9) c.ifaces.length ((c.ifaces.map (ix cs)).map (ptrV cl)) := by
        have := Row.hof_own hL.own
        rw [List.take_length] at this
        rw [List.map_map]
        exact this
      have HRW := Lib.hid hrw
      have HIN := Lib.hid (containsNil_any hrw)
      have HA := Lib.hid (fun i d hd => hL.all HK.out (HALL.out i d hd))
      have c8 : wr.cell? ⟨cb, 8, none⟩ = some (.pointer q) := by rw [← HQ.out]; exact hL.at_.cell 8
      have c9 : wr.cell? ⟨cb, 9, none⟩ = some (.slice a9 c.ifaces.length cp9) := hL.at_.cell 9
      have c3 : wr.cell? ⟨cb, 3, none⟩ = some (.bool c.iface) := by rw [← HN.out.ifc]; exact hL.at_.cell 3
      have c11 : wr.cell? ⟨cb, 1, none⟩ = some (.string k.super) := hL.at_.cell 1
      have HSP := Lib.hid HN.out.sp
      clear hL hrw
      cases hix : ix cs c.super with
      | none =>
        have E := Lib.hid (kindE_14 (cs := cs) (c := c) (.inl hix))
        have : q = none := by have := HQ.out; rw [hix] at this; injection this with this; exact this.symm
        subst this
        clear hix
        go_wp2
        go_ret
        exact ⟨by rw [E.out]; rfl, hU.out, fun h => by rw [E.out] at h; cases h⟩
      | some si =>
        have : q = some ⟨cl si, 0, none⟩ := by have := HQ.out; rw [hix] at this; injection this with this; exact this.symm
        subst this
        have HIX := Lib.hid hix
        clear hix
        go_wp2_with fail
        refine HIN.out.mono ?_
        rintro e w1 ⟨cc, rfl, hcc, hw1⟩
        obtain rfl : wr = w1 := hw1.symm
        cases cc with
        | true =>
          have E := Lib.hid (kindE_14 (cs := cs) (c := c) (.inr (hcc.1 rfl)))
          clear hcc
          go_wp2
          go_ret
          exact ⟨by rw [E.out]; rfl, hU.out, fun h => by rw [E.out] at h; cases h⟩
        | false =>
          have HCC := Lib.hid (show none ∉ c.ifaces.map (ix cs) from fun h => by have := hcc.2 h; cases this)
          clear hcc
          obtain ⟨d, hd, _⟩ := ix_some HIX.out
          obtain ⟨ks, hks, hki⟩ := HA.out si d hd
          have hsi : wr.cell? ⟨cl si, 3, none⟩ = some (.bool (isI cs c.super)) := by
            rw [hks.cell 3, show isI cs c.super = d.iface by unfold isI; rw [HIX.out]; simp only [hd], ← hki]; rfl
          clear hd hks hki
          have hnn : ix cs c.super ≠ none := by rw [HIX.out]; simp
          have closeIt : ∀ (Z : World), Z = wr → (isI cs c.super = true ∨ c.super = strB ∨ c.super = weakB ∨ c.super = loadB ∨ (c.iface = true ∧ c.super ≠ objB) ∨ (∃ nm ∈ c.ifaces, isI cs nm = false)) → (Ending.returned (.int .i64 17) = .returned (.int .i64 (kindE cs c : Int)) ∧ Upd [cb] w Z ∧ (kindE cs c = 0 → ∃ v, LI cs cl cb k c w c.ifaces.length v Z)) := fun Z hZ h => by
            rw [kindE_17 hnn HCC.out h, hZ]
            exact ⟨rfl, hU.out, fun h => by cases h⟩
          have CL := Lib.hid closeIt
          have HNN := Lib.hid hnn
          have SE := Lib.hid (fun W => isSealed_any k.super W)
          clear closeIt hnn
          cases h1 : isI cs c.super with
          | true =>
            rw [h1] at hsi
            have H1 := Lib.hid h1
            clear h1
            go_wp2
            go_ret
            exact CL.out _ rfl (.inl H1.out)
          | false =>
            rw [h1] at hsi
            have H1 := Lib.hid h1
            clear h1
            by_cases h2 : k.super.toList = strB ∨ k.super.toList = weakB ∨ k.super.toList = loadB
            · have SE2 := Lib.hid (show ∀ W, Calls Tryz.prog 108 #[.string k.super] W fun e w' => e = .returned (.bool true) ∧ w' = W from fun W => by have := SE.out W; rwa [decide_eq_true h2] at this)
              have H2 := Lib.hid h2
              clear h2
              go_wp2_with fail
              refine (SE2.out _).mono ?_
              rintro e wi ⟨rfl, rfl⟩
              go_wp2
              go_ret
              exact CL.out _ rfl (.inr (by have := H2.out; rw [Lib.toList_data, HSP.out] at this; rcases this with h | h | h; exact .inl h; exact .inr (.inl h); exact .inr (.inr (.inl h))))
            · have SE2 := Lib.hid (show ∀ W, Calls Tryz.prog 108 #[.string k.super] W fun e w' => e = .returned (.bool false) ∧ w' = W from fun W => by have := SE.out W; rwa [decide_eq_false h2] at this)
              have H2 := Lib.hid h2
              clear h2
              -- the last: are all of them interfaces?
              have last : ∀ W, W = wr → Calls Tryz.prog 109 #[.slice a9 c.ifaces.length cp9, .func (.func 110) #[] #[]] W fun e w' => (e = .returned (.bool true) ∧ (∃ nm ∈ c.ifaces, isI cs nm = false) ∧ ∃ m, w' = wr.drewN m) ∨ (e = .returned (.bool false) ∧ (∀ nm ∈ c.ifaces, isI cs nm = true) ∧ ∃ m, w' = wr.drewN m) := by
                rintro W rfl
                have hat : ∀ (j : Nat) (x : Value), ((c.ifaces.map (ix cs)).map (ptrV cl))[j]? = some x → ∃ nm i, c.ifaces[j]? = some nm ∧ ix cs nm = some i ∧ x = .pointer (some ⟨cl i, 0, none⟩) := by
                  intro j x hx
                  rw [List.getElem?_map, List.getElem?_map] at hx
                  cases hn : c.ifaces[j]? with
                  | none => rw [hn] at hx; cases hx
                  | some nm =>
                    rw [hn] at hx
                    cases hi : ix cs nm with
                    | none => exact absurd (List.mem_map.2 ⟨nm, List.mem_of_getElem? hn, hi⟩) HCC.out
                    | some i =>
                      simp only [Option.map_some, Option.some.injEq, hi] at hx
                      exact ⟨nm, i, rfl, hi, hx.symm⟩
                refine (containsFunc110 (g := fun j => match c.ifaces[j]? with | some nm => !isI cs nm | none => false) HRW.out (fun j x hx m => ?_)).mono ?_
                · obtain ⟨nm, i, e1, e2, rfl⟩ := hat j x hx
                  obtain ⟨di, hdi, _⟩ := ix_some e2
                  obtain ⟨ki, hki, hi2⟩ := HA.out i di hdi
                  refine (isClass_any (hki.drewN m)).mono ?_
                  rintro e w' ⟨rfl, rfl⟩
                  refine ⟨?_, m, rfl⟩
                  simp only [e1]
                  rw [hi2, show isI cs nm = di.iface by unfold isI; rw [e2]; simp only [hdi]]
                · rintro e w' ⟨cc, rfl, hcc, hm'⟩
                  cases cc with
                  | true =>
                    obtain ⟨i, hi, hg⟩ := hcc.1 rfl
                    left
                    rw [List.getElem?_eq_getElem hi] at hg
                    exact ⟨rfl, ⟨c.ifaces[i], List.getElem_mem hi, by simpa using hg⟩, hm'⟩
                  | false =>
                    right
                    refine ⟨rfl, fun nm hnm => ?_, hm'⟩
                    obtain ⟨i, hi, rfl⟩ := List.getElem_of_mem hnm
                    cases hb : isI cs c.ifaces[i] with
                    | true => rfl
                    | false =>
                      have := hcc.2 ⟨i, hi, by rw [List.getElem?_eq_getElem hi]; simp [hb]⟩
                      cases this
              have LAST := Lib.hid last
              clear last
              have fin : ∀ m, ¬ (c.iface = true ∧ c.super ≠ objB) → (∀ nm ∈ c.ifaces, isI cs nm = true) → (Ending.returned (.int .i64 0) = .returned (.int .i64 (kindE cs c : Int)) ∧ Upd [cb] w (wr.drewN m) ∧ (kindE cs c = 0 → ∃ v, LI cs cl cb k c w c.ifaces.length v (wr.drewN m))) := fun m h3 h4 => by
                have e0 : kindE cs c = 0 := kindE_0 HNN.out HCC.out (by
                  have h2 := H2.out
                  rw [Lib.toList_data, HSP.out] at h2
                  rintro (h | h | h | h | h | ⟨nm, hnm, h⟩)
                  · rw [H1.out] at h; cases h
                  · exact h2 (.inl h)
                  · exact h2 (.inr (.inl h))
                  · exact h2 (.inr (.inr h))
                  · exact h3 h
                  · rw [h4 nm hnm] at h; cases h)
                rw [e0]
                exact ⟨rfl, hU.out.drewN m, fun _ => ⟨_, HL.out.upd.drewN m, HL.out.at_, HL.out.own⟩⟩
              have FIN := Lib.hid fin
              have CL2 := Lib.hid (show ∀ m, (c.iface = true ∧ c.super ≠ objB) ∨ (∃ nm ∈ c.ifaces, isI cs nm = false) → (Ending.returned (.int .i64 17) = .returned (.int .i64 (kindE cs c : Int)) ∧ Upd [cb] w (wr.drewN m) ∧ (kindE cs c = 0 → ∃ v, LI cs cl cb k c w c.ifaces.length v (wr.drewN m))) from fun m h => by
                rw [kindE_17 HNN.out HCC.out (.inr (.inr (.inr (.inr h))))]
                exact ⟨rfl, hU.out.drewN m, fun h => by cases h⟩)
              clear fin
              cases h3 : c.iface with
              | false =>
                rw [h3] at c3
                have H3 := Lib.hid h3
                clear h3
                go_wp2_with fail
                refine (SE2.out _).mono ?_
                rintro e wi ⟨rfl, hwi⟩
                obtain rfl : wr = wi := hwi.symm
                go_wp2_with fail
                refine (LAST.out _ rfl).mono ?_
                rintro e w2 (⟨rfl, h5, m, rfl⟩ | ⟨rfl, h5, m, rfl⟩)
                · have H5 := Lib.hid h5
                  clear h5
                  go_wp2
                  go_ret
                  exact CL2.out m (.inr H5.out)
                · have H5 := Lib.hid h5
                  clear h5
                  go_wp2
                  go_ret
                  exact FIN.out m (fun h => by rw [H3.out] at h; cases h.1) H5.out
              | true =>
                rw [h3] at c3
                have H3 := Lib.hid h3
                clear h3
                by_cases h4 : c.super = objB
                · have e4 : (k.super.toList == objB) = true := by rw [Lib.toList_data, HSP.out, h4]; simp
                  have H4 := Lib.hid h4
                  unfold objB at e4
                  clear h4
                  go_wp2_with fail
                  refine (SE2.out _).mono ?_
                  rintro e wi ⟨rfl, hwi⟩
                  obtain rfl : wr = wi := hwi.symm
                  go_wp2_with fail
                  refine (LAST.out _ rfl).mono ?_
                  rintro e w2 (⟨rfl, h5, m, rfl⟩ | ⟨rfl, h5, m, rfl⟩)
                  · have H5 := Lib.hid h5
                    clear h5
                    go_wp2
                    go_ret
                    exact CL2.out m (.inr H5.out)
                  · have H5 := Lib.hid h5
                    clear h5
                    go_wp2
                    go_ret
                    exact FIN.out m (fun h => h.2 H4.out) H5.out
                · have e4 : (k.super.toList == objB) = false := by rw [Lib.toList_data, HSP.out]; simpa using h4
                  have H4 := Lib.hid h4
                  unfold objB at e4
                  clear h4
                  go_wp2_with fail
                  refine (SE2.out _).mono ?_
                  rintro e wi ⟨rfl, hwi⟩
                  obtain rfl : wr = wi := hwi.symm
                  go_wp2
                  go_ret
                  exact CL2.out 0 (.inl ⟨H3.out, H4.out⟩)
end Go.Proofs.YtmaknddlgppinaaGreatDoor
