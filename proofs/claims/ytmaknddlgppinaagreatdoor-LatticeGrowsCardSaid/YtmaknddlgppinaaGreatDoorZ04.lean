/-
  CUT and joined from the texts of this seat: Hm Hn
-/
import Derived.Test.YtmaknddlgppinaaGreatDoorZ03
import Derived.Test.YtmaknddlgppinaaGreatDoorRows
import Derived.WalkKit
import Derived.WalkSpells
import Derived.WalkLawsBesides
import Derived.Below
import Derived.Lib.Hide
import Derived.Deep.Draws
import Derived.BigQuiet
import Derived.StillTail
import Derived.LoopN
import Derived.Deep.LoopGhost
import Derived.Laws.BitsAll
import Derived.RegionTactic
import Derived.Deep.RegionWith
import Derived.StillTailTactics
set_option linter.unusedVariables false
set_option linter.unusedSimpArgs false
namespace Go.Proofs.YtmaknddlgppinaaGreatDoor
open Go.RowKit
theorem lt_of_block {w : World} {b : Nat} {o : Obj} (h : w.heap[b]? = some o) : b < w.heap.size := (Array.getElem?_eq_some_iff.1 h).1
theorem kcells_of {w : World} {b : Nat} {cs : Array Value} {t : TypeId} (h : w.heap[b]? = some (.cells cs t (0, 0))) (i : Nat) : w.cell? ⟨b, i, none⟩ = cs[i]? := by simp [World.cell?, h]
theorem kfree_of {w : World} {b : Nat} {cs : Array Value} {t : TypeId} (h : w.heap[b]? = some (.cells cs t (0, 0))) (i : Nat) : w.frozen? ⟨b, i, none⟩ = false := by simp [World.frozen?, h]
def ucells (l : List Nat) : List Value := l.map fun (r : Nat) => .int .u64 (r : Int)
/-- A set of places at block b. -/
structure SetAt (b : Nat) (ws : List Nat) (w : World) : Prop where
 row : w.heap[b]? = some (.cells (ucells ws).toArray 160 (0, 0))
 word : ∀ x ∈ ws, x < 18446744073709551616
 few : ws.length ≤ 1048576
theorem SetAt.cell {b : Nat} {ws : List Nat} {w : World} (h : SetAt b ws w) {i x : Nat} (hx : ws[i]? = some x) : w.cell? ⟨b, i, none⟩ = some (.int .u64 (x : Int)) := by
 rw [kcells_of h.row]
 simp [ucells, hx]
theorem has_in {ws : List Nat} {k x : Nat} (hx : ws[k / 64]? = some x) : bit ws k = decide (x / 2 ^ (k % 64) % 2 = 1) := by
 unfold bit
 rw [hx, Option.getD_some, Nat.testBit_eq_decide_div_mod_eq]
theorem has_out {ws : List Nat} {k : Nat} (h : ¬ k / 64 < ws.length) : bit ws k = false := by
 cases hb : bit ws k with
 | false => rfl
 | true => exact absurd (bit_lt hb) h
set_option maxRecDepth 1000000 in
set_option maxHeartbeats 1600000 in
theorem has_bit {b : Nat} {ws : List Nat} {w : World} (h : SetAt b ws w) (k : Nat) (hk : k ≤ 1048576) :
  Calls Tryz.prog 102 #[.slice (some ⟨b, 0, none⟩) ws.length ws.length, .int .i64 (k : Int)] w fun e w' => e = .returned (.bool (bit ws k)) ∧ w' = w := by
 have hf := h.few
 by_cases hin : k / 64 < ws.length
 ·have hx : ws[k / 64]? = some ws[k / 64] := by simp [hin]
  have hc := h.cell hx
  have hw := h.word _ (List.mem_of_getElem? hx)
  have hb := has_in hx
  generalize ws[k / 64] = x at *
  have e1 : ((k : Int).tdiv 64) = ((k / 64 : Nat) : Int) := by rw [Int.tdiv_eq_ediv_of_nonneg (by omega)]; omega
  have e2 : ((k : Int).tmod 64) = ((k % 64 : Nat) : Int) := by rw [Int.tmod_eq_emod_of_nonneg (by omega)]; omega
  have hi : ((k / 64 : Nat) : Int) < (ws.length : Int) := by omega
  generalize bit ws k = B at *
  generalize ws.length = n at *
  clear h
  go_enter Tryz.func102, Tryz.ntmps102
  go_wp2
  go_ret
  refine ⟨?_, rfl⟩
  have e3 : ((x : Int) / 2 ^ (k % 64)) = ((x / 2 ^ (k % 64) : Nat) : Int) := by simp
  have h3 : x / 2 ^ (k % 64) < 18446744073709551616 := Nat.lt_of_le_of_lt (Nat.div_le_self _ _) hw
  have e4 : bits BinOp.and IntKind.u64 ((x : Int) / 2 ^ (k % 64)) 1 = ((x / 2 ^ (k % 64) % 2 : Nat) : Int) := by
   rw [e3, show (1 : Int) = ((1 : Nat) : Int) from rfl, u64_and_nat _ _ h3 (by omega), Nat.and_one_is_mod]
  show Ending.returned (Value.bool (bits BinOp.and IntKind.u64 ((x : Int) / 2 ^ (k % 64)) 1 != 0)) = _
  rw [e4, hb]
  generalize x / 2 ^ (k % 64) = y
  congr 2
  rcases Nat.mod_two_eq_zero_or_one y with h | h <;> rw [h] <;> rfl
 ·have hb := has_out hin
  generalize bit ws k = B at *
  subst hb
  have hi : ¬ ((k : Int).tdiv 64) < (ws.length : Int) := by rw [Int.tdiv_eq_ediv_of_nonneg (by omega)]; omega
  generalize ws.length = n at *
  clear h
  go_enter Tryz.func102, Tryz.ntmps102
  go_wp2
  go_ret
  exact ⟨rfl, rfl⟩
/-- What is kept of a class, as it stands in memory. -/
structure KC where
 name : ByteArray
 super : ByteArray
 ifn : Value
 iface : Bool
 abs : Bool
 own : Bool
 at_ : Int
 place : Nat
 up : Value
 ifs : Value
 above : Value
def KC.cells (k : KC) : List Value := [.string k.name, .string k.super, k.ifn, .bool k.iface, .bool k.abs, .bool k.own, .int .i64 k.at_, .int .i64 (k.place : Int), k.up, k.ifs, k.above]
def KAt (c : Nat) (k : KC) (w : World) : Prop := w.heap[c]? = some (.cells k.cells.toArray 116 (0, 0))
theorem KAt.cell {c : Nat} {k : KC} {w : World} (h : KAt c k w) (i : Nat) : w.cell? ⟨c, i, none⟩ = k.cells[i]? := by
 rw [kcells_of h]; simp
set_option maxRecDepth 1000000 in
set_option maxHeartbeats 1600000 in
theorem under_any {c d b : Nat} {k l : KC} {ws : List Nat} {w : World} (hc : KAt c k w) (hd : KAt d l w) (ha : k.above = .slice (some ⟨b, 0, none⟩) ws.length ws.length) (hs : SetAt b ws w) (hp : l.place ≤ 1048576) :
  Calls Tryz.prog 75 #[.pointer (some ⟨c, 0, none⟩), .pointer (some ⟨d, 0, none⟩)] w fun e w' => e = .returned (.bool (bit ws l.place)) ∧ ∃ n, w' = w.drewN n := by
 have c1 : w.cell? ⟨c, 10, none⟩ = some (.slice (some ⟨b, 0, none⟩) ws.length ws.length) := by rw [hc.cell 10, ← ha]; rfl
 have c2 : w.cell? ⟨d, 7, none⟩ = some (.int .i64 (l.place : Int)) := hd.cell 7
 have key : Calls Tryz.prog 102 #[.slice (some ⟨b, 0, none⟩) ws.length ws.length, .int .i64 (l.place : Int)] w.drew fun e w' => e = .returned (.bool (bit ws l.place)) ∧ w' = w.drew := has_bit (w := w.drew) ⟨hs.row, hs.word, hs.few⟩ l.place hp
 generalize bit ws l.place = B at *
 generalize l.place = p at *
 clear hc hd hs ha
 go_enter Tryz.func75, Tryz.ntmps75
 go_wp2
 refine wp_region_still_tail 8 (by kernel_rfl) (by kernel_rfl) ?_
 change wpStill _ _ w.drew _ _ _
 simp only [List.take_succ_cons, List.take_zero, List.drop_succ_cons, List.drop_zero]
 repeat still_step
 refine wpStill_nil ?_
 change wpList _ _ _ _ _ w.drew
 go_wp2_with fail
 refine key.mono ?_
 rintro e w' ⟨rfl, rfl⟩
 go_wp2
 go_ret
 exact ⟨rfl, 1, rfl⟩
set_option maxRecDepth 1000000 in
set_option maxHeartbeats 1600000 in
theorem inCycle_any {c b : Nat} {k : KC} {ws : List Nat} {w : World} (hc : KAt c k w) (ha : k.above = .slice (some ⟨b, 0, none⟩) ws.length ws.length) (hs : SetAt b ws w) (hp : k.place ≤ 1048576) :
  Calls Tryz.prog 83 #[.pointer (some ⟨c, 0, none⟩)] w fun e w' => e = .returned (.bool (bit ws k.place)) ∧ ∃ n, w' = w.drewN n := by
 have key := under_any hc hc ha hs hp
 generalize bit ws k.place = B at *
 clear hc hs ha hp
 go_enter Tryz.func83, Tryz.ntmps83
 go_wp2_with fail
 refine key.mono ?_
 rintro e w' ⟨rfl, n, rfl⟩
 go_wp2
 go_ret
 exact ⟨rfl, n, rfl⟩
theorem made_words (n : Nat) : madeCells #[Value.int .u64 0] n = (ucells (List.replicate n 0)).toArray := by
 apply Array.toList_inj.1
 rw [toList_madeCells_one]
 simp [ucells]
theorem make_words (n : Nat) (hn : n ≤ 1048576) (w : World) : (Instr.makeSlice 114 (.int .i64 (n : Int)) (.int .i64 (n : Int))).run Tryz.prog w = .ok (.slice (some ⟨w.heap.size, 0, none⟩) n n) (w.alloc (.cells (ucells (List.replicate n 0)).toArray 160)) := by
 obtain ⟨i0, hi, hz0, hz1, hz2⟩ : ∃ i, Tryz.prog.info? 160 = some i ∧ i.zero = some (.int .u64 0) ∧ i.size = 1 ∧ i.bytes = 8 := info_parts (by kernel_rfl)
 have := run_make (P := Tryz.prog) w 114 160 i0 (.int .u64 0) (by kernel_rfl) hi hz0 .i64 .i64 n n (by omega) (Int.le_refl _) (by rw [hz2]; omega) (by omega)
 rw [this, Int.toNat_natCast, hz1, Nat.mul_one, ← made_words]
 rfl
set_option maxRecDepth 1000000 in
set_option maxHeartbeats 1600000 in
theorem newSet_any (p : Nat) (hp : p ≤ 1048576) (w : World) :
  Calls Tryz.prog 111 #[.int .i64 (p : Int)] w fun e w' => e = .returned (.slice (some ⟨w.heap.size, 0, none⟩) ((p + 63) / 64) ((p + 63) / 64)) ∧ w' = w.alloc (.cells (ucells (List.replicate ((p + 63) / 64) 0)).toArray 160) := by
 have hm := make_words ((p + 63) / 64) (by omega) w
 obtain ⟨z, hz⟩ : ∃ z : Int, z = (p : Int) := ⟨_, rfl⟩
 have e2 : (z + 63) / 64 = (((p + 63) / 64 : Nat) : Int) := by omega
 have z0 : 0 ≤ z := by omega
 have z1 : z ≤ 1048576 := by omega
 rw [← e2] at hm
 rw [← hz]
 clear hz e2 hp
 generalize (p + 63) / 64 = n at *
 go_enter Tryz.func111, Tryz.ntmps111
 go_wp2
 go_ret
 exact ⟨rfl, rfl⟩
/-- Nothing but the blocks S is other than it was. -/
structure Upd (S : List Nat) (w w' : World) : Prop where
 os : w'.os = w.os
 tape : w'.tape = w.tape
 output : w'.output = w.output
 size : w.heap.size ≤ w'.heap.size
 block : ∀ k, k < w.heap.size → k ∉ S → w'.heap[k]? = w.heap[k]?
theorem Upd.refl (S : List Nat) (w : World) : Upd S w w := ⟨rfl, rfl, rfl, Nat.le_refl _, fun _ _ _ => rfl⟩
theorem Upd.trans {S : List Nat} {a b c : World} (h : Upd S a b) (k : Upd S b c) : Upd S a c := ⟨k.os.trans h.os, k.tape.trans h.tape, k.output.trans h.output, Nat.le_trans h.size k.size, fun i hi hn => (k.block i (Nat.lt_of_lt_of_le hi h.size) hn).trans (h.block i hi hn)⟩
theorem Upd.set {S : List Nat} {b i : Nat} {w : World} {u : Value} (hb : b ∈ S) : Upd S w (w.setCell ⟨b, i, none⟩ u) := ⟨rfl, rfl, rfl, by simp [World.setCell], fun k _ hk => Below.heap_setCell _ _ _ _ (fun e => hk (by rw [e]; exact hb))⟩
theorem Upd.drewN {S : List Nat} {a w : World} (h : Upd S a w) (n : Nat) : Upd S a (w.drewN n) := ⟨h.os, h.tape, h.output, h.size, h.block⟩
theorem heap_set_eq {w : World} {b i : Nat} {u : Value} {cs : Array Value} {t : TypeId} {m : Nat × Nat} (h : w.heap[b]? = some (.cells cs t m)) : (w.setCell ⟨b, i, none⟩ u).heap[b]? = some (.cells (cs.setIfInBounds i u) t m) := by
 have hlt := lt_of_block h
 simp only [World.setCell, Array.getElem?_modify, h]
 simp
theorem SetAt.set {b : Nat} {ws : List Nat} {w : World} (h : SetAt b ws w) (i x : Nat) (hx : x < 18446744073709551616) : SetAt b (ws.set i x) (w.setCell ⟨b, i, none⟩ (.int .u64 (x : Int))) := by
 refine ⟨?_, ?_, by simpa using h.few⟩
 ·rw [heap_set_eq h.row]
  simp [ucells, List.map_set]
 ·intro y hy
  rcases List.mem_or_eq_of_mem_set hy with hy | rfl
  ·exact h.word y hy
  ·exact hx
theorem SetAt.other {b c i : Nat} {ws : List Nat} {w : World} {u : Value} (h : SetAt b ws w) (hn : b ≠ c) : SetAt b ws (w.setCell ⟨c, i, none⟩ u) := ⟨(Below.heap_setCell _ _ _ _ hn).trans h.row, h.word, h.few⟩
theorem SetAt.drewN {b : Nat} {ws : List Nat} {w : World} (h : SetAt b ws w) (n : Nat) : SetAt b ws (w.drewN n) := ⟨h.row, h.word, h.few⟩
theorem KAt.other {c b i : Nat} {k : KC} {w : World} {u : Value} (h : KAt c k w) (hn : c ≠ b) : KAt c k (w.setCell ⟨b, i, none⟩ u) := (Below.heap_setCell _ _ _ _ hn).trans h
theorem SetAt.frozen {b : Nat} {ws : List Nat} {w : World} (h : SetAt b ws w) (i : Nat) : w.frozen? ⟨b, i, none⟩ = false := kfree_of h.row i
/-- What the loop has come to: the row at b, of which the words ahead of i are joined with those of vs. -/
structure Joined (b d : Nat) (ws vs : List Nat) (p i : Nat) (us : List Nat) (g : Bool) (w : World) : Prop where
 row : SetAt b us w
 len : us.length = ws.length
 other : d = b ∨ SetAt d vs w
 sound : ∀ k, bit us k = true → bit ws k = true ∨ k = p ∨ bit vs k = true
 keep : ∀ k, bit ws k = true → bit us k = true
 put : bit us p = true
 done : ∀ k, k / 64 < i → bit vs k = true → bit us k = true
 grown : g = true ↔ ∃ k, bit us k = true ∧ bit ws k = false
theorem bit_set {us : List Nat} {i v : Nat} (hi : i < us.length) (k : Nat) : bit (us.set i v) k = if k / 64 = i then v.testBit (k % 64) else bit us k := by
 unfold bit
 by_cases h : k / 64 = i
 ·rw [if_pos h, h, List.getElem?_set_self hi, Option.getD_some]
 ·rw [if_neg h, List.getElem?_set_ne (Ne.symm h)]
theorem bit_at {us : List Nat} {i z : Nat} (hz : us[i]? = some z) {k : Nat} (hk : k / 64 = i) : bit us k = z.testBit (k % 64) := by
 unfold bit
 rw [hk, hz, Option.getD_some]
theorem Joined.drew {b d : Nat} {ws vs us : List Nat} {p i : Nat} {g : Bool} {w : World} (h : Joined b d ws vs p i us g w) : Joined b d ws vs p i us g w.drew :=
 ⟨h.row.drewN 1, h.len, h.other.imp id (fun x => x.drewN 1), h.sound, h.keep, h.put, h.done, h.grown⟩
theorem Joined.start {b d : Nat} {ws vs : List Nat} {p x : Nat} {w : World} (hs : SetAt b ws w) (hv : d = b ∨ SetAt d vs w) (hx : ws[p / 64]? = some x) (hl : x < 18446744073709551616) :
  Joined b d ws vs p 0 (ws.set (p / 64) (x ||| 2 ^ (p % 64))) (!bit ws p) (w.setCell ⟨b, p / 64, none⟩ (.int .u64 ((x ||| 2 ^ (p % 64) : Nat) : Int))) := by
 have hb : 2 ^ (p % 64) < 2 ^ 64 := Nat.pow_lt_pow_right (by omega) (Nat.mod_lt _ (by omega))
 have hset := bit_put hx
 refine ⟨hs.set _ _ (word_lt hl hb), by simp, ?_, ?_, ?_, ?_, ?_, ?_⟩
 ·rcases hv with h | h
  ·exact .inl h
  ·by_cases e : d = b
   ·exact .inl e
   ·exact .inr (h.other e)
 ·intro k hk
  rw [hset] at hk
  by_cases e : k = p
  ·exact .inr (.inl e)
  ·simp [e] at hk; exact .inl hk
 ·intro k hk; rw [hset, hk]; rfl
 ·rw [hset]; simp
 ·intro k hk; omega
 ·constructor
  ·intro h
   exact ⟨p, by rw [hset]; simp, by simpa using h⟩
  ·rintro ⟨k, h1, h2⟩
   rw [hset, h2] at h1
   have e : k = p := by simpa using h1
   subst e
   simp [h2]
theorem Joined.step {b d : Nat} {ws vs us : List Nat} {p i : Nat} {g : Bool} {w : World} (h : Joined b d ws vs p i us g w) (hal : d = b → vs = ws) (hl : vs.length ≤ ws.length) (hi : i < vs.length) :
  ∃ y z : Nat, y < 18446744073709551616 ∧ z < 18446744073709551616 ∧ w.cell? ⟨d, i, none⟩ = some (.int .u64 (y : Int)) ∧ w.cell? ⟨b, i, none⟩ = some (.int .u64 (z : Int)) ∧
   Joined b d ws vs p (i + 1) (us.set i (z ||| y)) (g || decide (y &&& (18446744073709551615 - z) ≠ 0)) (w.setCell ⟨b, i, none⟩ (.int .u64 ((z ||| y : Nat) : Int))) := by
 have hiu : i < us.length := by rw [h.len]; omega
 obtain ⟨z, hz⟩ : ∃ z, us[i]? = some z := ⟨us[i], by simp [hiu]⟩
 have hzl := h.row.word z (List.mem_of_getElem? hz)
 obtain ⟨y, hy, hyl, hd⟩ : ∃ y : Nat, w.cell? ⟨d, i, none⟩ = some (.int .u64 (y : Int)) ∧ y < 18446744073709551616 ∧ ((d = b ∧ y = z) ∨ (d ≠ b ∧ vs[i]? = some y)) := by
  by_cases e : d = b
  ·exact ⟨z, by rw [e]; exact h.row.cell hz, hzl, .inl ⟨e, rfl⟩⟩
  ·rcases h.other with h2 | h2
   ·exact absurd h2 e
   ·have hv : vs[i]? = some vs[i] := by simp [hi]
    exact ⟨vs[i], h2.cell hv, h2.word _ (List.mem_of_getElem? hv), .inr ⟨e, hv⟩⟩
 have hyv : ∀ k, k / 64 = i → y.testBit (k % 64) = true → bit us k = true ∨ bit vs k = true := by
  intro k hk hb
  rcases hd with ⟨_, rfl⟩ | ⟨_, hv⟩
  ·left; rw [bit_at hz hk]; exact hb
  ·right; rw [bit_at hv hk]; exact hb
 have hmono : ∀ k, bit us k = true → bit (us.set i (z ||| y)) k = true := by
  intro k hk
  rw [bit_set hiu]
  split
  ·rename_i e
   rw [bit_at hz e] at hk
   rw [Nat.testBit_or, hk]; rfl
  ·exact hk
 have hnew : ∀ k, bit (us.set i (z ||| y)) k = true → bit us k = true ∨ (k / 64 = i ∧ y.testBit (k % 64) = true) := by
  intro k hk
  rw [bit_set hiu] at hk
  split at hk
  ·rename_i e
   rw [Nat.testBit_or, Bool.or_eq_true] at hk
   rcases hk with hk | hk
   ·left; rw [bit_at hz e]; exact hk
   ·exact .inr ⟨e, hk⟩
  ·exact .inl hk
 refine ⟨y, z, hyl, hzl, hy, h.row.cell hz, ⟨h.row.set _ _ (word_lt hzl hyl), by simpa using h.len, ?_, ?_, ?_, ?_, ?_, ?_⟩⟩
 ·rcases h.other with e | h2
  ·exact .inl e
  ·by_cases e : d = b
   ·exact .inl e
   ·exact .inr (h2.other e)
 ·intro k hk
  rcases hnew k hk with h1 | ⟨h1, h2⟩
  ·exact h.sound k h1
  ·rcases hyv k h1 h2 with h3 | h3
   ·exact h.sound k h3
   ·exact .inr (.inr h3)
 ·intro k hk; exact hmono k (h.keep k hk)
 ·exact hmono _ h.put
 ·intro k hk hb
  by_cases e : k / 64 = i
  ·rcases hd with ⟨e2, _⟩ | ⟨_, hv⟩
   ·rw [hal e2] at hb; exact hmono k (h.keep k hb)
   ·rw [bit_set hiu, if_pos e, Nat.testBit_or]
    rw [bit_at hv e] at hb
    rw [hb]; simp
  ·exact hmono k (h.done k (by omega) hb)
 ·have hw := word_new (a := y) (b := z) hyl hzl
  rw [Bool.or_eq_true, decide_eq_true_eq]
  constructor
  ·rintro (h1 | h1)
   ·obtain ⟨k, h2, h3⟩ := h.grown.1 h1
    exact ⟨k, hmono k h2, h3⟩
   ·have : ¬ ∀ r, y.testBit r = true → z.testBit r = true := fun h2 => h1 (hw.2 h2)
    obtain ⟨r, hr⟩ := Classical.not_forall.1 this
    have hr1 : y.testBit r = true := Classical.byContradiction fun h2 => hr (fun h3 => absurd h3 h2)
    have hr2 : z.testBit r = false := by
     cases hzr : z.testBit r with
     | false => rfl
     | true => exact absurd (fun _ => hzr) hr
    have hr64 : r < 64 := by
     apply Classical.byContradiction
     intro hn
     have := Nat.testBit_lt_two_pow (x := y) (i := r) (Nat.lt_of_lt_of_le hyl (Nat.pow_le_pow_right (n := 2) (by omega) (show 64 ≤ r by omega)))
     rw [this] at hr1; cases hr1
    have e1 : (64 * i + r) / 64 = i := by omega
    have e2 : (64 * i + r) % 64 = r := by omega
    refine ⟨64 * i + r, by rw [bit_set hiu, if_pos e1, e2, Nat.testBit_or, hr1]; simp, ?_⟩
    cases hb : bit ws (64 * i + r) with
    | false => rfl
    | true =>
     have := h.keep _ hb
     rw [bit_at hz e1, e2, hr2] at this; cases this
  ·rintro ⟨k, h1, h2⟩
   rcases hnew k h1 with h3 | ⟨h3, h4⟩
   ·exact .inl (h.grown.2 ⟨k, h3, h2⟩)
   ·by_cases h5 : bit us k = true
    ·exact .inl (h.grown.2 ⟨k, h5, h2⟩)
    ·right
     intro h6
     have := hw.1 h6 _ h4
     rw [bit_at hz h3] at h5
     exact h5 this
set_option maxRecDepth 1000000 in
set_option maxHeartbeats 3200000 in
theorem addUp_any {b c d : Nat} {k : KC} {ws vs : List Nat} {w : World} (hs : SetAt b ws w) (hc : KAt c k w) (ha : k.above = .slice (some ⟨d, 0, none⟩) vs.length vs.length) (hv : SetAt d vs w) (hal : d = b → vs = ws) (hpb : k.place ≤ 1048576) (hp : k.place / 64 < ws.length) (hl : vs.length ≤ ws.length) :
  Calls Tryz.prog 123 #[.slice (some ⟨b, 0, none⟩) ws.length ws.length, .pointer (some ⟨c, 0, none⟩)] w fun e w' => ∃ us, ∃ g : Bool, e = .returned (.bool g) ∧ Joined b d ws vs k.place vs.length us g w' ∧ Upd [b] w w' := by
 have hne : c ≠ b := by
  rintro rfl
  have h1 := hc
  unfold KAt at h1
  rw [hs.row] at h1
  have := congrArg (fun o => match o with | some (Obj.cells _ t _) => t | _ => 0) h1
  cases this
 have c1 : w.cell? ⟨c, 10, none⟩ = some (.slice (some ⟨d, 0, none⟩) vs.length vs.length) := by rw [hc.cell 10, ← ha]; rfl
 have c2 : w.cell? ⟨c, 7, none⟩ = some (.int .i64 (k.place : Int)) := hc.cell 7
 have hf := hs.few
 have hx : ws[k.place / 64]? = some ws[k.place / 64] := by simp [hp]
 have c3 := hs.cell hx
 have hw := hs.word _ (List.mem_of_getElem? hx)
 have f3 := hs.frozen (k.place / 64)
 have key := has_bit hs k.place hpb
 have HS := Lib.hid hs
 have HC := Lib.hid hc
 have HV := Lib.hid hv
 generalize hpl : k.place = p at *
 generalize hW : ws[p / 64] = x at *
 have HX := Lib.hid hx
 have HAL := Lib.hid hal
 have HA := Lib.hid ha
 clear hs hc hv hx hal ha
 go_enter Tryz.func123, Tryz.ntmps123
 go_wp2_with fail
 refine key.mono ?_
 rintro e w' ⟨rfl, rfl⟩
 go_wp2_with fail
 have hpi : (p : Int) / 64 < (ws.length : Int) := by omega
 have hpj : ((p / 64 : Nat) : Int) < (ws.length : Int) := by omega
 have hpk : ((p : Int).tdiv 64) < (ws.length : Int) := by rw [Int.tdiv_eq_ediv_of_nonneg (by omega)]; omega
 go_region
 go_wp2
 go_loopg [5, 36] vs.length (fun g v5 v36 wx => ∃ (i : Nat) (us : List Nat) (gb : Bool), v5 = .bool gb ∧ v36 = .int .i64 (i : Int) ∧ i + g = vs.length ∧ Joined b d ws vs p i us gb wx ∧ Upd [b] w' wx)
 case atStart =>
  have e0 : IntKind.u64.wrap (2 ^ (p % 64)) = ((2 ^ (p % 64) : Nat) : Int) := by
   have hb : 2 ^ (p % 64) < 2 ^ 64 := Nat.pow_lt_pow_right (by omega) (Nat.mod_lt p (by omega))
   have e : (2 : Int) ^ (p % 64) = ((2 ^ (p % 64) : Nat) : Int) := by simp
   rw [e, IntKind.wrap_u64]
   generalize 2 ^ (p % 64) = q at hb
   omega
  have hb : 2 ^ (p % 64) < 18446744073709551616 := Nat.pow_lt_pow_right (m := p % 64) (n := 64) (a := 2) (by omega) (Nat.mod_lt p (by omega))
  rw [e0, u64_or_nat _ _ hw hb]
  exact ⟨0, _, _, rfl, rfl, by omega, (Joined.start HS.out (.inr HV.out) HX.out hw).drew, (Upd.set (by simp)).drewN 1⟩
 case round =>
  obtain ⟨i, us, gb, rfl, rfl, hig, hj, hu⟩ := hrel
  have U1 := Lib.hid hu
  by_cases hk : i < vs.length
  ·have hki : (i : Int) < (vs.length : Int) := by omega
   have hkw : (i : Int) < (ws.length : Int) := by omega
   have hgg : gk - 1 < gk := by omega
   obtain ⟨y, z, hy, hz, c5, c6, hj2⟩ := hj.step HAL.out hl hk
   have f6 := hj.row.frozen i
   have J2 := Lib.hid hj2
   clear hj hj2 hu
   have eo : bits BinOp.or IntKind.u64 (z : Int) (y : Int) = ((z ||| y : Nat) : Int) := u64_or_nat _ _ hz hy
   have en : bits BinOp.andNot IntKind.u64 (y : Int) (z : Int) = ((y &&& (18446744073709551615 - z) : Nat) : Int) := u64_andNot_nat _ _ hy hz
   have EO := Lib.hid eo
   have EN := Lib.hid en
   have HKG := Lib.hid hig
   clear eo en
   go_wp2
   ·go_roundg (gk - 1)
    case measure => exact hgg
    case rel =>
     rw [EO.out]
     refine ⟨i + 1, _, _, ?_, by go_num, by have := HKG.out; omega, J2.out, U1.out.trans (Upd.set (by simp))⟩
     rename_i hgt
     rw [hgt]
     rfl
   ·go_roundg (gk - 1)
    case measure => exact hgg
    case rel =>
     rw [EO.out, EN.out]
     refine ⟨i + 1, _, _, ?_, by go_num, by have := HKG.out; omega, J2.out, U1.out.trans (Upd.set (by simp))⟩
     have e : ((((y &&& (18446744073709551615 - z)) : Nat) : Int) != 0) = decide (y &&& (18446744073709551615 - z) ≠ 0) := by
      generalize y &&& (18446744073709551615 - z) = q
      by_cases hq : q = 0
      ·simp [hq]
      ·simp [hq]
     rw [e]
     cases gb with
     | false => rfl
     | true => simp_all
  ·obtain rfl : i = vs.length := by omega
   have J1 := Lib.hid hj
   clear hj hu
   go_wp2
   go_ret
   exact ⟨_, _, rfl, J1.out, U1.out⟩
end Go.Proofs.YtmaknddlgppinaaGreatDoor
