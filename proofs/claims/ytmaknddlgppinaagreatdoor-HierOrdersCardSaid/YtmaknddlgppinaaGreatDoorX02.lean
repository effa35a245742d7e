/-
  CUT and joined from the texts of this seat: Hm Hn Rd Ho Hk
-/
import Derived.Test.YtmaknddlgppinaaGreatDoorX01
import Derived.Test.YtmaknddlgppinaaGreatDoorRows
import Derived.WalkKit
import Derived.WalkSpells
import Derived.WalkLawsBesides
import Derived.Below
import Derived.Lib.Hide
import Derived.Deep.Draws
import Derived.BigQuiet
import Derived.StillTail
import Derived.LoopN
import Derived.Deep.LoopGhost
import Derived.Laws.BitsAll
import Derived.RegionTactic
import Derived.Deep.RegionWith
import Derived.StillTailTactics
import Derived.Laws.OwnMore
import Derived.Deep.AppendLies
import Derived.Maps.OwnSet
set_option linter.unusedVariables false
set_option linter.unusedSimpArgs false
/-! Hm -/
namespace Go.Proofs.YtmaknddlgppinaaGreatDoor
open Go.RowKit

theorem lt_of_block {w : World} {b : Nat} {o : Obj} (h : w.heap[b]? = some o) : b < w.heap.size := (Array.getElem?_eq_some_iff.1 h).1
theorem kcells_of {w : World} {b : Nat} {cs : Array Value} {t : TypeId} (h : w.heap[b]? = some (.cells cs t (0, 0))) (i : Nat) : w.cell? ⟨b, i, none⟩ = cs[i]? := by simp [World.cell?, h]
theorem kfree_of {w : World} {b : Nat} {cs : Array Value} {t : TypeId} (h : w.heap[b]? = some (.cells cs t (0, 0))) (i : Nat) : w.frozen? ⟨b, i, none⟩ = false := by simp [World.frozen?, h]
def ucells (l : List Nat) : List Value := l.map fun (r : Nat) => .int .u64 (r : Int)
/-- A set of places at block b. -/
structure SetAt (b : Nat) (ws : List Nat) (w : World) : Prop where
  row : w.heap[b]? = some (.cells (ucells ws).toArray 160 (0, 0))
  word : ∀ x ∈ ws, x < 18446744073709551616
  few : ws.length ≤ 1048576
theorem SetAt.cell {b : Nat} {ws : List Nat} {w : World} (h : SetAt b ws w) {i x : Nat} (hx : ws[i]? = some x) : w.cell? ⟨b, i, none⟩ = some (.int .u64 (x : Int)) := by
  rw [kcells_of h.row]
  simp [ucells, hx]
theorem has_in {ws : List Nat} {k x : Nat} (hx : ws[k / 64]? = some x) : bit ws k = decide (x / 2 ^ (k % 64) % 2 = 1) := by
  unfold bit
  rw [hx, Option.getD_some, Nat.testBit_eq_decide_div_mod_eq]
theorem has_out {ws : List Nat} {k : Nat} (h : ¬ k / 64 < ws.length) : bit ws k = false := by
  cases hb : bit ws k with
  | false => rfl
  | true => exact absurd (bit_lt hb) h
set_option maxRecDepth 1000000 in
set_option maxHeartbeats 1600000 in
theorem has_bit {b : Nat} {ws : List Nat} {w : World} (h : SetAt b ws w) (k : Nat) (hk : k ≤ 1048576) :
    Calls Tryz.prog 102 #[.slice (some ⟨b, 0, none⟩) ws.length ws.length, .int .i64 (k : Int)] w fun e w' => e = .returned (.bool (bit ws k)) ∧ w' = w := by
  have hf := h.few
  by_cases hin : k / 64 < ws.length
  · have hx : ws[k / 64]? = some ws[k / 64] := by simp [hin]
    have hc := h.cell hx
    have hw := h.word _ (List.mem_of_getElem? hx)
    have hb := has_in hx
    generalize ws[k / 64] = x at *
    have e1 : ((k : Int).tdiv 64) = ((k / 64 : Nat) : Int) := by rw [Int.tdiv_eq_ediv_of_nonneg (by omega)]; omega
    have e2 : ((k : Int).tmod 64) = ((k % 64 : Nat) : Int) := by rw [Int.tmod_eq_emod_of_nonneg (by omega)]; omega
    have hi : ((k / 64 : Nat) : Int) < (ws.length : Int) := by omega
    generalize bit ws k = B at *
    generalize ws.length = n at *
    clear h
    go_enter Tryz.func102, Tryz.ntmps102
    go_wp2
    go_ret
    refine ⟨?_, rfl⟩
    have e3 : ((x : Int) / 2 ^ (k % 64)) = ((x / 2 ^ (k % 64) : Nat) : Int) := by simp
    have h3 : x / 2 ^ (k % 64) < 18446744073709551616 := Nat.lt_of_le_of_lt (Nat.div_le_self _ _) hw
    have e4 : bits BinOp.and IntKind.u64 ((x : Int) / 2 ^ (k % 64)) 1 = ((x / 2 ^ (k % 64) % 2 : Nat) : Int) := by
      rw [e3, show (1 : Int) = ((1 : Nat) : Int) from rfl, u64_and_nat _ _ h3 (by omega), Nat.and_one_is_mod]
    show Ending.returned (Value.bool (bits BinOp.and IntKind.u64 ((x : Int) / 2 ^ (k % 64)) 1 != 0)) = _
    rw [e4, hb]
    generalize x / 2 ^ (k % 64) = y
    congr 2
    rcases Nat.mod_two_eq_zero_or_one y with h | h <;> rw [h] <;> rfl
  · have hb := has_out hin
    generalize bit ws k = B at *
    subst hb
    have hi : ¬ ((k : Int).tdiv 64) < (ws.length : Int) := by rw [Int.tdiv_eq_ediv_of_nonneg (by omega)]; omega
    generalize ws.length = n at *
    clear h
    go_enter Tryz.func102, Tryz.ntmps102
    go_wp2
    go_ret
    exact ⟨rfl, rfl⟩
/-- What is kept of a class, as it stands in memory. -/
structure KC where
  name : ByteArray
  super : ByteArray
  ifn : Value
  iface : Bool
  abs : Bool
  own : Bool
  at_ : Int
  place : Nat
  up : Value
  ifs : Value
  above : Value
def KC.cells (k : KC) : List Value := [.string k.name, .string k.super, k.ifn, .bool k.iface, .bool k.abs, .bool k.own, .int .i64 k.at_, .int .i64 (k.place : Int), k.up, k.ifs, k.above]
def KAt (c : Nat) (k : KC) (w : World) : Prop := w.heap[c]? = some (.cells k.cells.toArray 116 (0, 0))
theorem KAt.cell {c : Nat} {k : KC} {w : World} (h : KAt c k w) (i : Nat) : w.cell? ⟨c, i, none⟩ = k.cells[i]? := by
  rw [kcells_of h]; simp
set_option maxRecDepth 1000000 in
set_option maxHeartbeats 1600000 in
theorem under_any {c d b : Nat} {k l : KC} {ws : List Nat} {w : World} (hc : KAt c k w) (hd : KAt d l w) (ha : k.above = .slice (some ⟨b, 0, none⟩) ws.length ws.length) (hs : SetAt b ws w) (hp : l.place ≤ 1048576) :
    Calls Tryz.prog 75 #[.pointer (some ⟨c, 0, none⟩), .pointer (some ⟨d, 0, none⟩)] w fun e w' => e = .returned (.bool (bit ws l.place)) ∧ ∃ n, w' = w.drewN n := by
  have c1 : w.cell? ⟨c, 10, none⟩ = some (.slice (some ⟨b, 0, none⟩) ws.length ws.length) := by rw [hc.cell 10, ← ha]; rfl
  have c2 : w.cell? ⟨d, 7, none⟩ = some (.int .i64 (l.place : Int)) := hd.cell 7
  have key : Calls Tryz.prog 102 #[.slice (some ⟨b, 0, none⟩) ws.length ws.length, .int .i64 (l.place : Int)] w.drew fun e w' => e = .returned (.bool (bit ws l.place)) ∧ w' = w.drew := has_bit (w := w.drew) ⟨hs.row, hs.word, hs.few⟩ l.place hp
  generalize bit ws l.place = B at *
  generalize l.place = p at *
  clear hc hd hs ha
  go_enter Tryz.func75, Tryz.ntmps75
  go_wp2
  refine wp_region_still_tail 8 (by kernel_rfl) (by kernel_rfl) ?_
  change wpStill _ _ w.drew _ _ _
  simp only [List.take_succ_cons, List.take_zero, List.drop_succ_cons, List.drop_zero]
  repeat still_step
  refine wpStill_nil ?_
  change wpList _ _ _ _ _ w.drew
  go_wp2_with fail
  refine key.mono ?_
  rintro e w' ⟨rfl, rfl⟩
  go_wp2
  go_ret
  exact ⟨rfl, 1, rfl⟩
set_option maxRecDepth 1000000 in
set_option maxHeartbeats 1600000 in
theorem inCycle_any {c b : Nat} {k : KC} {ws : List Nat} {w : World} (hc : KAt c k w) (ha : k.above = .slice (some ⟨b, 0, none⟩) ws.length ws.length) (hs : SetAt b ws w) (hp : k.place ≤ 1048576) :
    Calls Tryz.prog 83 #[.pointer (some ⟨c, 0, none⟩)] w fun e w' => e = .returned (.bool (bit ws k.place)) ∧ ∃ n, w' = w.drewN n := by
  have key := under_any hc hc ha hs hp
  generalize bit ws k.place = B at *
  clear hc hs ha hp
  go_enter Tryz.func83, Tryz.ntmps83
  go_wp2_with fail
  refine key.mono ?_
  rintro e w' ⟨rfl, n, rfl⟩
  go_wp2
  go_ret
  exact ⟨rfl, n, rfl⟩
theorem made_words (n : Nat) : madeCells #[Value.int .u64 0] n = (ucells (List.replicate n 0)).toArray := by
  apply Array.toList_inj.1
  rw [toList_madeCells_one]
  simp [ucells]
theorem make_words (n : Nat) (hn : n ≤ 1048576) (w : World) : (Instr.makeSlice 114 (.int .i64 (n : Int)) (.int .i64 (n : Int))).run Tryz.prog w = .ok (.slice (some ⟨w.heap.size, 0, none⟩) n n) (w.alloc (.cells (ucells (List.replicate n 0)).toArray 160)) := by
  obtain ⟨i0, hi, hz0, hz1, hz2⟩ : ∃ i, Tryz.prog.info? 160 = some i ∧ i.zero = some (.int .u64 0) ∧ i.size = 1 ∧ i.bytes = 8 := info_parts (by kernel_rfl)
  have := run_make (P := Tryz.prog) w 114 160 i0 (.int .u64 0) (by kernel_rfl) hi hz0 .i64 .i64 n n (by omega) (Int.le_refl _) (by rw [hz2]; omega) (by omega)
  rw [this, Int.toNat_natCast, hz1, Nat.mul_one, ← made_words]
  rfl
set_option maxRecDepth 1000000 in
set_option maxHeartbeats 1600000 in
theorem newSet_any (p : Nat) (hp : p ≤ 1048576) (w : World) :
    Calls Tryz.prog 111 #[.int .i64 (p : Int)] w fun e w' => e = .returned (.slice (some ⟨w.heap.size, 0, none⟩) ((p + 63) / 64) ((p + 63) / 64)) ∧ w' = w.alloc (.cells (ucells (List.replicate ((p + 63) / 64) 0)).toArray 160) := by
  have hm := make_words ((p + 63) / 64) (by omega) w
  obtain ⟨z, hz⟩ : ∃ z : Int, z = (p : Int) := ⟨_, rfl⟩
  have e2 : (z + 63) / 64 = (((p + 63) / 64 : Nat) : Int) := by omega
  have z0 : 0 ≤ z := by omega
  have z1 : z ≤ 1048576 := by omega
  rw [← e2] at hm
  rw [← hz]
  clear hz e2 hp
  generalize (p + 63) / 64 = n at *
  go_enter Tryz.func111, Tryz.ntmps111
  go_wp2
  go_ret
  exact ⟨rfl, rfl⟩
end Go.Proofs.YtmaknddlgppinaaGreatDoor
/-! Hn -/
namespace Go.Proofs.YtmaknddlgppinaaGreatDoor
open Go.RowKit

/-- Nothing but the blocks S is other than it was. -/
structure Upd (S : List Nat) (w w' : World) : Prop where
  os : w'.os = w.os
  tape : w'.tape = w.tape
  output : w'.output = w.output
  size : w.heap.size ≤ w'.heap.size
  block : ∀ k, k < w.heap.size → k ∉ S → w'.heap[k]? = w.heap[k]?
theorem Upd.refl (S : List Nat) (w : World) : Upd S w w := ⟨rfl, rfl, rfl, Nat.le_refl _, fun _ _ _ => rfl⟩
theorem Upd.trans {S : List Nat} {a b c : World} (h : Upd S a b) (k : Upd S b c) : Upd S a c := ⟨k.os.trans h.os, k.tape.trans h.tape, k.output.trans h.output, Nat.le_trans h.size k.size, fun i hi hn => (k.block i (Nat.lt_of_lt_of_le hi h.size) hn).trans (h.block i hi hn)⟩
theorem Upd.set {S : List Nat} {b i : Nat} {w : World} {u : Value} (hb : b ∈ S) : Upd S w (w.setCell ⟨b, i, none⟩ u) := ⟨rfl, rfl, rfl, by simp [World.setCell], fun k _ hk => Below.heap_setCell _ _ _ _ (fun e => hk (by rw [e]; exact hb))⟩
theorem Upd.drewN {S : List Nat} {a w : World} (h : Upd S a w) (n : Nat) : Upd S a (w.drewN n) := ⟨h.os, h.tape, h.output, h.size, h.block⟩
theorem heap_set_eq {w : World} {b i : Nat} {u : Value} {cs : Array Value} {t : TypeId} {m : Nat × Nat} (h : w.heap[b]? = some (.cells cs t m)) : (w.setCell ⟨b, i, none⟩ u).heap[b]? = some (.cells (cs.setIfInBounds i u) t m) := by
  have hlt := lt_of_block h
  simp only [World.setCell, Array.getElem?_modify, h]
  simp
theorem SetAt.set {b : Nat} {ws : List Nat} {w : World} (h : SetAt b ws w) (i x : Nat) (hx : x < 18446744073709551616) : SetAt b (ws.set i x) (w.setCell ⟨b, i, none⟩ (.int .u64 (x : Int))) := by
  refine ⟨?_, ?_, by simpa using h.few⟩
  · rw [heap_set_eq h.row]
    simp [ucells, List.map_set]
  · intro y hy
    rcases List.mem_or_eq_of_mem_set hy with hy | rfl
    · exact h.word y hy
    · exact hx
theorem SetAt.other {b c i : Nat} {ws : List Nat} {w : World} {u : Value} (h : SetAt b ws w) (hn : b ≠ c) : SetAt b ws (w.setCell ⟨c, i, none⟩ u) := ⟨(Below.heap_setCell _ _ _ _ hn).trans h.row, h.word, h.few⟩
theorem SetAt.drewN {b : Nat} {ws : List Nat} {w : World} (h : SetAt b ws w) (n : Nat) : SetAt b ws (w.drewN n) := ⟨h.row, h.word, h.few⟩
theorem KAt.other {c b i : Nat} {k : KC} {w : World} {u : Value} (h : KAt c k w) (hn : c ≠ b) : KAt c k (w.setCell ⟨b, i, none⟩ u) := (Below.heap_setCell _ _ _ _ hn).trans h
theorem SetAt.frozen {b : Nat} {ws : List Nat} {w : World} (h : SetAt b ws w) (i : Nat) : w.frozen? ⟨b, i, none⟩ = false := kfree_of h.row i
/-- What the loop has come to: the row at b, of which the words ahead of i are joined with those of vs. -/
structure Joined (b d : Nat) (ws vs : List Nat) (p i : Nat) (us : List Nat) (g : Bool) (w : World) : Prop where
  row : SetAt b us w
  len : us.length = ws.length
  other : d = b ∨ SetAt d vs w
  sound : ∀ k, bit us k = true → bit ws k = true ∨ k = p ∨ bit vs k = true
  keep : ∀ k, bit ws k = true → bit us k = true
  put : bit us p = true
  done : ∀ k, k / 64 < i → bit vs k = true → bit us k = true
  grown : g = true ↔ ∃ k, bit us k = true ∧ bit ws k = false
theorem bit_set {us : List Nat} {i v : Nat} (hi : i < us.length) (k : Nat) : bit (us.set i v) k = if k / 64 = i then v.testBit (k % 64) else bit us k := by
  unfold bit
  by_cases h : k / 64 = i
  · rw [if_pos h, h, List.getElem?_set_self hi, Option.getD_some]
  · rw [if_neg h, List.getElem?_set_ne (Ne.symm h)]
theorem bit_at {us : List Nat} {i z : Nat} (hz : us[i]? = some z) {k : Nat} (hk : k / 64 = i) : bit us k = z.testBit (k % 64) := by
  unfold bit
  rw [hk, hz, Option.getD_some]
theorem Joined.drew {b d : Nat} {ws vs us : List Nat} {p i : Nat} {g : Bool} {w : World} (h : Joined b d ws vs p i us g w) : Joined b d ws vs p i us g w.drew :=
  ⟨h.row.drewN 1, h.len, h.other.imp id (fun x => x.drewN 1), h.sound, h.keep, h.put, h.done, h.grown⟩
theorem Joined.start {b d : Nat} {ws vs : List Nat} {p x : Nat} {w : World} (hs : SetAt b ws w) (hv : d = b ∨ SetAt d vs w) (hx : ws[p / 64]? = some x) (hl : x < 18446744073709551616) :
    Joined b d ws vs p 0 (ws.set (p / 64) (x ||| 2 ^ (p % 64))) (!bit ws p) (w.setCell ⟨b, p / 64, none⟩ (.int .u64 ((x ||| 2 ^ (p % 64) : Nat) : Int))) := by
  have hb : 2 ^ (p % 64) < 2 ^ 64 := Nat.pow_lt_pow_right (by omega) (Nat.mod_lt _ (by omega))
  have hset := bit_put hx
  refine ⟨hs.set _ _ (word_lt hl hb), by simp, ?_, ?_, ?_, ?_, ?_, ?_⟩
  · rcases hv with h | h
    · exact .inl h
    · by_cases e : d = b
      · exact .inl e
      · exact .inr (h.other e)
  · intro k hk
    rw [hset] at hk
    by_cases e : k = p
    · exact .inr (.inl e)
    · simp [e] at hk; exact .inl hk
  · intro k hk; rw [hset, hk]; rfl
  · rw [hset]; simp
  · intro k hk; omega
  · constructor
    · intro h
      exact ⟨p, by rw [hset]; simp, by simpa using h⟩
    · rintro ⟨k, h1, h2⟩
      rw [hset, h2] at h1
      have e : k = p := by simpa using h1
      subst e
      simp [h2]
theorem Joined.step {b d : Nat} {ws vs us : List Nat} {p i : Nat} {g : Bool} {w : World} (h : Joined b d ws vs p i us g w) (hal : d = b → vs = ws) (hl : vs.length ≤ ws.length) (hi : i < vs.length) :
    ∃ y z : Nat, y < 18446744073709551616 ∧ z < 18446744073709551616 ∧ w.cell? ⟨d, i, none⟩ = some (.int .u64 (y : Int)) ∧ w.cell? ⟨b, i, none⟩ = some (.int .u64 (z : Int)) ∧
      Joined b d ws vs p (i + 1) (us.set i (z ||| y)) (g || decide (y &&& (18446744073709551615 - z) ≠ 0)) (w.setCell ⟨b, i, none⟩ (.int .u64 ((z ||| y : Nat) : Int))) := by
  have hiu : i < us.length := by rw [h.len]; omega
  obtain ⟨z, hz⟩ : ∃ z, us[i]? = some z := ⟨us[i], by simp [hiu]⟩
  have hzl := h.row.word z (List.mem_of_getElem? hz)
  obtain ⟨y, hy, hyl, hd⟩ : ∃ y : Nat, w.cell? ⟨d, i, none⟩ = some (.int .u64 (y : Int)) ∧ y < 18446744073709551616 ∧ ((d = b ∧ y = z) ∨ (d ≠ b ∧ vs[i]? = some y)) := by
    by_cases e : d = b
    · exact ⟨z, by rw [e]; exact h.row.cell hz, hzl, .inl ⟨e, rfl⟩⟩
    · rcases h.other with h2 | h2
      · exact absurd h2 e
      · have hv : vs[i]? = some vs[i] := by simp [hi]
        exact ⟨vs[i], h2.cell hv, h2.word _ (List.mem_of_getElem? hv), .inr ⟨e, hv⟩⟩
  have hyv : ∀ k, k / 64 = i → y.testBit (k % 64) = true → bit us k = true ∨ bit vs k = true := by
    intro k hk hb
    rcases hd with ⟨_, rfl⟩ | ⟨_, hv⟩
    · left; rw [bit_at hz hk]; exact hb
    · right; rw [bit_at hv hk]; exact hb
  have hmono : ∀ k, bit us k = true → bit (us.set i (z ||| y)) k = true := by
    intro k hk
    rw [bit_set hiu]
    split
    · rename_i e
      rw [bit_at hz e] at hk
      rw [Nat.testBit_or, hk]; rfl
    · exact hk
  have hnew : ∀ k, bit (us.set i (z ||| y)) k = true → bit us k = true ∨ (k / 64 = i ∧ y.testBit (k % 64) = true) := by
    intro k hk
    rw [bit_set hiu] at hk
    split at hk
    · rename_i e
      rw [Nat.testBit_or, Bool.or_eq_true] at hk
      rcases hk with hk | hk
      · left; rw [bit_at hz e]; exact hk
      · exact .inr ⟨e, hk⟩
    · exact .inl hk
  refine ⟨y, z, hyl, hzl, hy, h.row.cell hz, ⟨h.row.set _ _ (word_lt hzl hyl), by simpa using h.len, ?_, ?_, ?_, ?_, ?_, ?_⟩⟩
  · rcases h.other with e | h2
    · exact .inl e
    · by_cases e : d = b
      · exact .inl e
      · exact .inr (h2.other e)
  · intro k hk
    rcases hnew k hk with h1 | ⟨h1, h2⟩
    · exact h.sound k h1
    · rcases hyv k h1 h2 with h3 | h3
      · exact h.sound k h3
      · exact .inr (.inr h3)
  · intro k hk; exact hmono k (h.keep k hk)
  · exact hmono _ h.put
  · intro k hk hb
    by_cases e : k / 64 = i
    · rcases hd with ⟨e2, _⟩ | ⟨_, hv⟩
      · rw [hal e2] at hb; exact hmono k (h.keep k hb)
      · rw [bit_set hiu, if_pos e, Nat.testBit_or]
        rw [bit_at hv e] at hb
        rw [hb]; simp
    · exact hmono k (h.done k (by omega) hb)
  · have hw := word_new (a := y) (b := z) hyl hzl
    rw [Bool.or_eq_true, decide_eq_true_eq]
    constructor
    · rintro (h1 | h1)
      · obtain ⟨k, h2, h3⟩ := h.grown.1 h1
        exact ⟨k, hmono k h2, h3⟩
      · have : ¬ ∀ r, y.testBit r = true → z.testBit r = true := fun h2 => h1 (hw.2 h2)
        obtain ⟨r, hr⟩ := Classical.not_forall.1 this
        have hr1 : y.testBit r = true := Classical.byContradiction fun h2 => hr (fun h3 => absurd h3 h2)
        have hr2 : z.testBit r = false := by
          cases hzr : z.testBit r with
          | false => rfl
          | true => exact absurd (fun _ => hzr) hr
        have hr64 : r < 64 := by
          apply Classical.byContradiction
          intro hn
          have := Nat.testBit_lt_two_pow (x := y) (i := r) (Nat.lt_of_lt_of_le hyl (Nat.pow_le_pow_right (n := 2) (by omega) (show 64 ≤ r by omega)))
          rw [this] at hr1; cases hr1
        have e1 : (64 * i + r) / 64 = i := by omega
        have e2 : (64 * i + r) % 64 = r := by omega
        refine ⟨64 * i + r, by rw [bit_set hiu, if_pos e1, e2, Nat.testBit_or, hr1]; simp, ?_⟩
        cases hb : bit ws (64 * i + r) with
        | false => rfl
        | true =>
          have := h.keep _ hb
          rw [bit_at hz e1, e2, hr2] at this; cases this
    · rintro ⟨k, h1, h2⟩
      rcases hnew k h1 with h3 | ⟨h3, h4⟩
      · exact .inl (h.grown.2 ⟨k, h3, h2⟩)
      · by_cases h5 : bit us k = true
        · exact .inl (h.grown.2 ⟨k, h5, h2⟩)
        · right
          intro h6
          have := hw.1 h6 _ h4
          rw [bit_at hz h3] at h5
          exact h5 this
set_option maxRecDepth 1000000 in
set_option maxHeartbeats 3200000 in
theorem addUp_any {b c d : Nat} {k : KC} {ws vs : List Nat} {w : World} (hs : SetAt b ws w) (hc : KAt c k w) (ha : k.above = .slice (some ⟨d, 0, none⟩) vs.length vs.length) (hv : SetAt d vs w) (hal : d = b → vs = ws) (hpb : k.place ≤ 1048576) (hp : k.place / 64 < ws.length) (hl : vs.length ≤ ws.length) :
    Calls Tryz.prog 123 #[.slice (some ⟨b, 0, none⟩) ws.length ws.length, .pointer (some ⟨c, 0, none⟩)] w fun e w' => ∃ us, ∃ g : Bool, e = .returned (.bool g) ∧ Joined b d ws vs k.place vs.length us g w' ∧ Upd [b] w w' := by
  have hne : c ≠ b := by
    rintro rfl
    have h1 := hc
    unfold KAt at h1
    rw [hs.row] at h1
    have := congrArg (fun o => match o with | some (Obj.cells _ t _) => t | _ => 0) h1
    cases this
  have c1 : w.cell? ⟨c, 10, none⟩ = some (.slice (some ⟨d, 0, none⟩) vs.length vs.length) := by rw [hc.cell 10, ← ha]; rfl
  have c2 : w.cell? ⟨c, 7, none⟩ = some (.int .i64 (k.place : Int)) := hc.cell 7
  have hf := hs.few
  have hx : ws[k.place / 64]? = some ws[k.place / 64] := by simp [hp]
  have c3 := hs.cell hx
  have hw := hs.word _ (List.mem_of_getElem? hx)
  have f3 := hs.frozen (k.place / 64)
  have key := has_bit hs k.place hpb
  have HS := Lib.hid hs
  have HC := Lib.hid hc
  have HV := Lib.hid hv
  generalize hpl : k.place = p at *
  generalize hW : ws[p / 64] = x at *
  have HX := Lib.hid hx
  have HAL := Lib.hid hal
  have HA := Lib.hid ha
  clear hs hc hv hx hal ha
  go_enter Tryz.func123, Tryz.ntmps123
  go_wp2_with fail
  refine key.mono ?_
  rintro e w' ⟨rfl, rfl⟩
  go_wp2_with fail
  have hpi : (p : Int) / 64 < (ws.length : Int) := by omega
  have hpj : ((p / 64 : Nat) : Int) < (ws.length : Int) := by omega
  have hpk : ((p : Int).tdiv 64) < (ws.length : Int) := by rw [Int.tdiv_eq_ediv_of_nonneg (by omega)]; omega
  go_region
  go_wp2
  go_loopg [5, 36] vs.length (fun g v5 v36 wx => ∃ (i : Nat) (us : List Nat) (gb : Bool), v5 = .bool gb ∧ v36 = .int .i64 (i : Int) ∧ i + g = vs.length ∧ Joined b d ws vs p i us gb wx ∧ Upd [b] w' wx)
  case atStart =>
    have e0 : IntKind.u64.wrap (2 ^ (p % 64)) = ((2 ^ (p % 64) : Nat) : Int) := by
      have hb : 2 ^ (p % 64) < 2 ^ 64 := Nat.pow_lt_pow_right (by omega) (Nat.mod_lt p (by omega))
      have e : (2 : Int) ^ (p % 64) = ((2 ^ (p % 64) : Nat) : Int) := by simp
      rw [e, IntKind.wrap_u64]
      generalize 2 ^ (p % 64) = q at hb
      omega
    have hb : 2 ^ (p % 64) < 18446744073709551616 := Nat.pow_lt_pow_right (m := p % 64) (n := 64) (a := 2) (by omega) (Nat.mod_lt p (by omega))
    rw [e0, u64_or_nat _ _ hw hb]
    exact ⟨0, _, _, rfl, rfl, by omega, (Joined.start HS.out (.inr HV.out) HX.out hw).drew, (Upd.set (by simp)).drewN 1⟩
  case round =>
    obtain ⟨i, us, gb, rfl, rfl, hig, hj, hu⟩ := hrel
    have U1 := Lib.hid hu
    by_cases hk : i < vs.length
    · have hki : (i : Int) < (vs.length : Int) := by omega
      have hkw : (i : Int) < (ws.length : Int) := by omega
      have hgg : gk - 1 < gk := by omega
      obtain ⟨y, z, hy, hz, c5, c6, hj2⟩ := hj.step HAL.out hl hk
      have f6 := hj.row.frozen i
      have J2 := Lib.hid hj2
      clear hj hj2 hu
      have eo : bits BinOp.or IntKind.u64 (z : Int) (y : Int) = ((z ||| y : Nat) : Int) := u64_or_nat _ _ hz hy
      have en : bits BinOp.andNot IntKind.u64 (y : Int) (z : Int) = ((y &&& (18446744073709551615 - z) : Nat) : Int) := u64_andNot_nat _ _ hy hz
      have EO := Lib.hid eo
      have EN := Lib.hid en
      have HKG := Lib.hid hig
      clear eo en
      go_wp2
      · go_roundg (gk - 1)
        case measure => exact hgg
        case rel =>
          rw [EO.out]
          refine ⟨i + 1, _, _, ?_, by go_num, by have := HKG.out; omega, J2.out, U1.out.trans (Upd.set (by simp))⟩
          rename_i hgt
          rw [hgt]
          rfl
      · go_roundg (gk - 1)
        case measure => exact hgg
        case rel =>
          rw [EO.out, EN.out]
          refine ⟨i + 1, _, _, ?_, by go_num, by have := HKG.out; omega, J2.out, U1.out.trans (Upd.set (by simp))⟩
          have e : ((((y &&& (18446744073709551615 - z)) : Nat) : Int) != 0) = decide (y &&& (18446744073709551615 - z) ≠ 0) := by
            generalize y &&& (18446744073709551615 - z) = q
            by_cases hq : q = 0
            · simp [hq]
            · simp [hq]
          rw [e]
          cases gb with
          | false => rfl
          | true => simp_all
    · obtain rfl : i = vs.length := by omega
      have J1 := Lib.hid hj
      clear hj hu
      go_wp2
      go_ret
      exact ⟨_, _, rfl, J1.out, U1.out⟩
end Go.Proofs.YtmaknddlgppinaaGreatDoor
/-! Rd -/
namespace Go.Proofs.YtmaknddlgppinaaGreatDoor
open Go.RowKit

theorem add_of_add (a : Addr) (i j : Nat) : (a.add i).add j = a.add (i + j) := by
  unfold Addr.add
  by_cases hi : i = 0 <;> by_cases hj : j = 0 <;> simp [hi, hj, Nat.add_assoc]
theorem plain_add (b o j : Nat) : ({ block := b, off := o } : Addr).add j = ⟨b, o + j, none⟩ := by
  unfold Addr.add
  by_cases h : j = 0 <;> simp [h]
/-- The slice's first n elements, each of so many cells, are the cells xs; they lie below block B. -/
def Reads (w : World) (B size : Nat) (A : Option Addr) (n : Nat) (xs : List Value) : Prop :=
  xs.length = n * size ∧ (0 < n → ∃ b o, A = some ⟨b, o, none⟩ ∧ b < B ∧ ∀ j u, xs[j]? = some u → w.cell? ⟨b, o + j, none⟩ = some u)
section
variable {w w' : World} {B B' size n : Nat} {A : Option Addr} {xs : List Value}
theorem Reads.keep (h : Reads w B size A n xs) (hk : ∀ p : Addr, p.block < B → w'.cell? p = w.cell? p) : Reads w' B size A n xs :=
  ⟨h.1, fun hn => by
    obtain ⟨b, o, e, hb, hc⟩ := h.2 hn
    exact ⟨b, o, e, hb, fun j u hu => (hk _ hb).trans (hc j u hu)⟩⟩
theorem Reads.more (h : Reads w B size A n xs) (hB : B ≤ B') : Reads w B' size A n xs :=
  ⟨h.1, fun hn => by
    obtain ⟨b, o, e, hb, hc⟩ := h.2 hn
    exact ⟨b, o, e, by omega, hc⟩⟩
theorem Reads.below (h : Reads w B size A n xs) (hb : Below B w w') : Reads w' B size A n xs := h.keep fun _ hp => hb.cell hp
theorem Reads.of_own {base : Nat} {e : TypeId} {c : Nat} (h : w.ownsRow base e size (.slice A n c) n xs) : Reads w w.heap.size size A n xs := by
  refine ⟨h.1, fun hn => ?_⟩
  obtain ⟨g, cap, hv, _, hlt⟩ := h.form hn
  have hA : A = some ⟨g, 0, none⟩ := by injection hv
  subst hA
  refine ⟨g, 0, rfl, hlt, fun j u hu => ?_⟩
  have := h.cells (g := g) rfl j u hu
  rwa [plain_add] at this
end
/-- The slice value v has n elements, of so many cells each: the cells xs. -/
def Row (B size : Nat) (w : World) (v : Value) (n : Nat) (xs : List Value) : Prop :=
  ∃ A cap, v = .slice A n cap ∧ n ≤ cap ∧ n ≤ maxLen ∧ Reads w B size A n xs
theorem Row.keep {B size n : Nat} {w w' : World} {v : Value} {xs : List Value} (h : Row B size w v n xs) (hk : ∀ p : Addr, p.block < B → w'.cell? p = w.cell? p) : Row B size w' v n xs := by
  obtain ⟨A, cap, h1, h2, h3, h4⟩ := h
  exact ⟨A, cap, h1, h2, h3, h4.keep hk⟩
theorem Row.more {B B' size n : Nat} {w : World} {v : Value} {xs : List Value} (h : Row B size w v n xs) (hB : B ≤ B') : Row B' size w v n xs := by
  obtain ⟨A, cap, h1, h2, h3, h4⟩ := h
  exact ⟨A, cap, h1, h2, h3, h4.more hB⟩
/-- A constant; a row of an exception table; a field or a method; a file. -/
structure Cn where
  tag : Int
  text : ByteArray
  n : Int
  a : Int
  b : Int
  c : Int
instance : Inhabited Cn := ⟨⟨0, ⟨#[]⟩, 0, 0, 0, 0⟩⟩
structure Hd where
  fr : Int
  to : Int
  at_ : Int
  cl : Int
structure Mb where
  fl : Int
  nm : Int
  ds : Int
  ms : Int
  ml : Int
  code : ByteArray
  hs : List Hd
instance : Inhabited Hd := ⟨⟨0, 0, 0, 0⟩⟩
instance : Inhabited Mb := ⟨⟨0, 0, 0, 0, 0, ⟨#[]⟩, []⟩⟩
structure Fl where
  pool : List Cn
  fl : Int
  this : Int
  super : Int
  ifs : List Int
  fds : List Mb
  mts : List Mb
def ccells (c : Cn) : List Value := [.int .i64 c.tag, .string c.text, .int .i64 c.n, .int .i64 c.a, .int .i64 c.b, .int .i64 c.c]
def hcells (h : Hd) : List Value := [.int .i64 h.fr, .int .i64 h.to, .int .i64 h.at_, .int .i64 h.cl]
def mcells (m : Mb) (hv : Value) : List Value := [.int .i64 m.fl, .int .i64 m.nm, .int .i64 m.ds, .int .i64 m.ms, .int .i64 m.ml, .string m.code, hv]
def iccells (l : List Int) : List Value := l.map fun (r : Int) => .int .i64 r
def mbcells (l : List (Mb × Value)) : List Value := l.flatMap fun p => mcells p.1 p.2
def CRow (B : Nat) (w : World) (v : Value) (cs : List Cn) : Prop := Row B 6 w v cs.length (cs.flatMap ccells)
def HRow (B : Nat) (w : World) (v : Value) (hs : List Hd) : Prop := Row B 4 w v hs.length (hs.flatMap hcells)
def IRow (B : Nat) (w : World) (v : Value) (is : List Int) : Prop := Row B 1 w v is.length (iccells is)
def MRow (B : Nat) (w : World) (v : Value) (ms : List Mb) : Prop :=
  ∃ hvs : List Value, hvs.length = ms.length ∧ (∀ (i : Nat) (m : Mb) (hv : Value), ms[i]? = some m → hvs[i]? = some hv → HRow B w hv m.hs) ∧ Row B 7 w v ms.length (mbcells (ms.zip hvs))
theorem MRow.keep {B : Nat} {w w' : World} {v : Value} {ms : List Mb} (h : MRow B w v ms) (hk : ∀ p : Addr, p.block < B → w'.cell? p = w.cell? p) : MRow B w' v ms := by
  obtain ⟨hvs, h1, h2, h3⟩ := h
  exact ⟨hvs, h1, fun i m hv a b => (h2 i m hv a b).keep hk, h3.keep hk⟩
theorem MRow.more {B B' : Nat} {w : World} {v : Value} {ms : List Mb} (h : MRow B w v ms) (hB : B ≤ B') : MRow B' w v ms := by
  obtain ⟨hvs, h1, h2, h3⟩ := h
  exact ⟨hvs, h1, fun i m hv a b => (h2 i m hv a b).more hB, h3.more hB⟩
theorem flat_at {α : Type} (f : α → List Value) (size : Nat) (hs : ∀ x, (f x).length = size) : ∀ (l : List α) (k : Nat) (x : α), l[k]? = some x → ∀ j, j < size → (l.flatMap f)[k * size + j]? = (f x)[j]?
  | [], k, x, h, _, _ => by simp at h
  | y :: l, 0, x, h, j, hj => by
    simp only [List.getElem?_cons_zero, Option.some.injEq] at h
    subst h
    rw [List.flatMap_cons, Nat.zero_mul, Nat.zero_add, List.getElem?_append_left (by rw [hs]; exact hj)]
  | y :: l, k + 1, x, h, j, hj => by
    simp only [List.getElem?_cons_succ] at h
    rw [List.flatMap_cons, List.getElem?_append_right (by rw [hs, Nat.succ_mul]; omega)]
    rw [hs, show (k + 1) * size + j - size = k * size + j by rw [Nat.succ_mul]; omega]
    exact flat_at f size hs l k x h j hj
theorem Row.nil {B size : Nat} {w : World} : Row B size w (.slice none 0 0) 0 [] := ⟨none, 0, rfl, Nat.le_refl _, by unfold maxLen; omega, by simp, fun h => absurd h (by omega)⟩
/-- The constant at place k. -/
theorem CRow.at_ {B : Nat} {w : World} {A : Option Addr} {n cap : Nat} {cs : List Cn} {k : Nat} {c : Cn} (h : CRow B w (.slice A n cap) cs) (hk : cs[k]? = some c) :
    ∃ b o, A = some ⟨b, o, none⟩ ∧ b < B ∧ w.cell? ⟨b, o + k * 6, none⟩ = some (.int .i64 c.tag) ∧ w.cell? ⟨b, o + k * 6 + 1, none⟩ = some (.string c.text) ∧ w.cell? ⟨b, o + k * 6 + 2, none⟩ = some (.int .i64 c.n) ∧
      w.cell? ⟨b, o + k * 6 + 3, none⟩ = some (.int .i64 c.a) ∧ w.cell? ⟨b, o + k * 6 + 4, none⟩ = some (.int .i64 c.b) ∧ w.cell? ⟨b, o + k * 6 + 5, none⟩ = some (.int .i64 c.c) := by
  obtain ⟨A', cap', e, _, _, _, h2⟩ := h
  injection e with e1 e2 e3
  subst e1
  have hl : k < cs.length := (List.getElem?_eq_some_iff.1 hk).1
  obtain ⟨b, o, e, hb, hc⟩ := h2 (by omega)
  have key : ∀ j u, j < 6 → (ccells c)[j]? = some u → w.cell? ⟨b, o + k * 6 + j, none⟩ = some u := fun j u hj hu => by
    rw [Nat.add_assoc]
    exact hc _ _ ((flat_at ccells 6 (fun _ => rfl) cs k c hk j hj).trans hu)
  exact ⟨b, o, e, hb, key 0 _ (by omega) rfl, key 1 _ (by omega) rfl, key 2 _ (by omega) rfl, key 3 _ (by omega) rfl, key 4 _ (by omega) rfl, key 5 _ (by omega) rfl⟩
theorem HRow.at_ {B : Nat} {w : World} {A : Option Addr} {n cap : Nat} {hs : List Hd} {k : Nat} {c : Hd} (h : HRow B w (.slice A n cap) hs) (hk : hs[k]? = some c) :
    ∃ b o, A = some ⟨b, o, none⟩ ∧ b < B ∧ w.cell? ⟨b, o + k * 4, none⟩ = some (.int .i64 c.fr) ∧ w.cell? ⟨b, o + k * 4 + 1, none⟩ = some (.int .i64 c.to) ∧ w.cell? ⟨b, o + k * 4 + 2, none⟩ = some (.int .i64 c.at_) ∧
      w.cell? ⟨b, o + k * 4 + 3, none⟩ = some (.int .i64 c.cl) := by
  obtain ⟨A', cap', e, _, _, _, h2⟩ := h
  injection e with e1 e2 e3
  subst e1
  have hl : k < hs.length := (List.getElem?_eq_some_iff.1 hk).1
  obtain ⟨b, o, e, hb, hc⟩ := h2 (by omega)
  have key : ∀ j u, j < 4 → (hcells c)[j]? = some u → w.cell? ⟨b, o + k * 4 + j, none⟩ = some u := fun j u hj hu => by
    rw [Nat.add_assoc]
    exact hc _ _ ((flat_at hcells 4 (fun _ => rfl) hs k c hk j hj).trans hu)
  exact ⟨b, o, e, hb, key 0 _ (by omega) rfl, key 1 _ (by omega) rfl, key 2 _ (by omega) rfl, key 3 _ (by omega) rfl⟩
theorem IRow.at_ {B : Nat} {w : World} {A : Option Addr} {n cap : Nat} {is : List Int} {k : Nat} {c : Int} (h : IRow B w (.slice A n cap) is) (hk : is[k]? = some c) :
    ∃ b o, A = some ⟨b, o, none⟩ ∧ b < B ∧ w.cell? ⟨b, o + k, none⟩ = some (.int .i64 c) := by
  obtain ⟨A', cap', e, _, _, _, h2⟩ := h
  injection e with e1 e2 e3
  subst e1
  have hl : k < is.length := (List.getElem?_eq_some_iff.1 hk).1
  obtain ⟨b, o, e, hb, hc⟩ := h2 (by omega)
  exact ⟨b, o, e, hb, hc _ _ (by unfold iccells; rw [List.getElem?_map, hk]; rfl)⟩
theorem MRow.at_ {B : Nat} {w : World} {A : Option Addr} {n cap : Nat} {ms : List Mb} {k : Nat} {m : Mb} (h : MRow B w (.slice A n cap) ms) (hk : ms[k]? = some m) :
    ∃ b o A' c', A = some ⟨b, o, none⟩ ∧ b < B ∧ HRow B w (.slice A' m.hs.length c') m.hs ∧ w.cell? ⟨b, o + k * 7, none⟩ = some (.int .i64 m.fl) ∧ w.cell? ⟨b, o + k * 7 + 1, none⟩ = some (.int .i64 m.nm) ∧ w.cell? ⟨b, o + k * 7 + 2, none⟩ = some (.int .i64 m.ds) ∧
      w.cell? ⟨b, o + k * 7 + 3, none⟩ = some (.int .i64 m.ms) ∧ w.cell? ⟨b, o + k * 7 + 4, none⟩ = some (.int .i64 m.ml) ∧ w.cell? ⟨b, o + k * 7 + 5, none⟩ = some (.string m.code) ∧ w.cell? ⟨b, o + k * 7 + 6, none⟩ = some (.slice A' m.hs.length c') := by
  obtain ⟨hvs, hl1, hr, A', cap', e, _, _, _, h2⟩ := h
  injection e with e1 e2 e3
  subst e1
  have hl : k < ms.length := (List.getElem?_eq_some_iff.1 hk).1
  obtain ⟨b, o, e, hb, hc⟩ := h2 (by omega)
  have hv : hvs[k]? = some (hvs[k]'(by omega)) := List.getElem?_eq_getElem (by omega)
  have hrow := hr k m _ hk hv
  generalize hvs[k]'(by omega) = hx at hv hrow
  obtain ⟨A2, c2, e2, rest⟩ := id hrow
  subst e2
  have hz : (ms.zip hvs)[k]? = some (m, .slice A2 m.hs.length c2) := by rw [List.getElem?_zip_eq_some]; exact ⟨hk, hv⟩
  have key : ∀ j u, j < 7 → (mcells m (.slice A2 m.hs.length c2))[j]? = some u → w.cell? ⟨b, o + k * 7 + j, none⟩ = some u := fun j u hj hu => by
    rw [Nat.add_assoc]
    exact hc _ _ ((flat_at (fun p : Mb × Value => mcells p.1 p.2) 7 (fun _ => rfl) _ k _ hz j hj).trans hu)
  exact ⟨b, o, A2, c2, e, hb, hrow, key 0 _ (by omega) rfl, key 1 _ (by omega) rfl, key 2 _ (by omega) rfl, key 3 _ (by omega) rfl, key 4 _ (by omega) rfl, key 5 _ (by omega) rfl, key 6 _ (by omega) rfl⟩
/-- The value v is the file f; its rows lie below block B. -/
structure FileIs (B : Nat) (w : World) (Ap : Option Addr) (cp : Nat) (Ai : Option Addr) (ci : Nat) (Af : Option Addr) (cf : Nat) (Am : Option Addr) (cm : Nat) (f : Fl) : Prop where
  pool : CRow B w (.slice Ap f.pool.length cp) f.pool
  ifs : IRow B w (.slice Ai f.ifs.length ci) f.ifs
  fds : MRow B w (.slice Af f.fds.length cf) f.fds
  mts : MRow B w (.slice Am f.mts.length cm) f.mts
def FileAt (B : Nat) (w : World) (v : Value) (f : Fl) : Prop :=
  ∃ Ap cp Ai ci Af cf Am cm, v = .agg #[.slice Ap f.pool.length cp, .int .i64 f.fl, .int .i64 f.this, .int .i64 f.super, .slice Ai f.ifs.length ci, .slice Af f.fds.length cf, .slice Am f.mts.length cm] ∧ FileIs B w Ap cp Ai ci Af cf Am cm f
theorem FileIs.keep {B : Nat} {w w' : World} {Ap Ai Af Am : Option Addr} {cp ci cf cm : Nat} {f : Fl} (h : FileIs B w Ap cp Ai ci Af cf Am cm f) (hk : ∀ p : Addr, p.block < B → w'.cell? p = w.cell? p) : FileIs B w' Ap cp Ai ci Af cf Am cm f :=
  ⟨Row.keep h.pool hk, Row.keep h.ifs hk, h.fds.keep hk, h.mts.keep hk⟩
theorem FileIs.more {B B' : Nat} {w : World} {Ap Ai Af Am : Option Addr} {cp ci cf cm : Nat} {f : Fl} (h : FileIs B w Ap cp Ai ci Af cf Am cm f) (hB : B ≤ B') : FileIs B' w Ap cp Ai ci Af cf Am cm f :=
  ⟨Row.more h.pool hB, Row.more h.ifs hB, h.fds.more hB, h.mts.more hB⟩
theorem FileAt.keep {B : Nat} {w w' : World} {v : Value} {f : Fl} (h : FileAt B w v f) (hk : ∀ p : Addr, p.block < B → w'.cell? p = w.cell? p) : FileAt B w' v f := by
  obtain ⟨Ap, cp, Ai, ci, Af, cf, Am, cm, e, h⟩ := h
  exact ⟨Ap, cp, Ai, ci, Af, cf, Am, cm, e, h.keep hk⟩
theorem FileAt.below {B B' : Nat} {w w' : World} {v : Value} {f : Fl} (h : FileAt B w v f) (hb : Below B' w w') (hB : B ≤ B') : FileAt B w' v f := h.keep fun p hp => hb.cell (p := p) (by omega)
theorem FileAt.more {B B' : Nat} {w : World} {v : Value} {f : Fl} (h : FileAt B w v f) (hB : B ≤ B') : FileAt B' w v f := by
  obtain ⟨Ap, cp, Ai, ci, Af, cf, Am, cm, e, h⟩ := h
  exact ⟨Ap, cp, Ai, ci, Af, cf, Am, cm, e, h.more hB⟩
theorem FileAt.alloc {B : Nat} {w : World} {v : Value} {f : Fl} (h : FileAt B w v f) (hB : B ≤ w.heap.size) (o : Obj) : FileAt B (w.alloc o) v f := h.keep fun p hp => World.cell?_alloc_lt w o p (by omega)
end Go.Proofs.YtmaknddlgppinaaGreatDoor
/-! Ho -/
namespace Go.Proofs.YtmaknddlgppinaaGreatDoor
open Go.RowKit

/-- A pointer to a class, or nil. -/
def ptrV (cl : Nat → Nat) : Option Nat → Value
  | none => .pointer none
  | some j => .pointer (some ⟨cl j, 0, none⟩)
/-- n classes at the blocks cl, those from o on with sets that may grow; their sets S at the blocks sl; who is directly above them: up, ifl. -/
structure Tab (B o n : Nat) (cl sl : Nat → Nat) (up : Nat → Option Nat) (ifl : Nat → List Nat) (S : Nat → List Nat) (w : World) : Prop where
  few : n ≤ 1000
  cls : ∀ i, i < n → ∃ k : KC, KAt (cl i) k w ∧ k.place = i ∧ k.up = ptrV cl (up i) ∧ Row B 1 w k.ifs (ifl i).length ((ifl i).map fun j => ptrV cl (some j)) ∧ k.above = .slice (some ⟨sl i, 0, none⟩) (S i).length (S i).length
  sets : ∀ i, i < n → SetAt (sl i) (S i) w
  inj : ∀ i j, i < n → j < n → sl i = sl j → i = j
  low : ∀ i, o ≤ i → i < n → B ≤ sl i
  upn : ∀ i j, i < n → up i = some j → j < n
  ifn : ∀ i j, i < n → j ∈ ifl i → j < n
  wide : ∀ i, o ≤ i → i < n → (S i).length = (n + 63) / 64
  len : ∀ i, i < n → (S i).length ≤ (n + 63) / 64
theorem set_ne {c b : Nat} {k : KC} {ws : List Nat} {w : World} (hc : KAt c k w) (hs : SetAt b ws w) : c ≠ b := by
  rintro rfl
  unfold KAt at hc
  rw [hs.row] at hc
  have := congrArg (fun o => match o with | some (Obj.cells _ t _) => t | _ => 0) hc
  cases this
def put1 (S : Nat → List Nat) (i : Nat) (us : List Nat) : Nat → List Nat := fun j => if j = i then us else S j
theorem put1_self (S : Nat → List Nat) (i : Nat) (us : List Nat) : put1 S i us i = us := by simp [put1]
theorem put1_ne (S : Nat → List Nat) {i j : Nat} (us : List Nat) (h : j ≠ i) : put1 S i us j = S j := by simp [put1, h]
theorem put1_twice (S : Nat → List Nat) (i : Nat) (us vs : List Nat) : put1 (put1 S i us) i vs = put1 S i vs := by
  funext j
  unfold put1
  split <;> rfl
theorem put1_same (S : Nat → List Nat) (i : Nat) : put1 S i (S i) = S := by
  funext j
  unfold put1
  split
  · rename_i h; rw [h]
  · rfl
section
variable {B o n : Nat} {cl sl : Nat → Nat} {up : Nat → Option Nat} {ifl : Nat → List Nat} {S : Nat → List Nat} {w w' : World}
theorem Tab.drewN (T : Tab B o n cl sl up ifl S w) (m : Nat) : Tab B o n cl sl up ifl S (w.drewN m) :=
  ⟨T.few, T.cls, fun i hi => (T.sets i hi).drewN m, T.inj, T.low, T.upn, T.ifn, T.wide, T.len⟩
/-- One set was turned. -/
theorem Tab.turn (T : Tab B o n cl sl up ifl S w) {i : Nat} (ho : o ≤ i) (hi : i < n) {us : List Nat} (hs : SetAt (sl i) us w') (hl : us.length = (S i).length) (hu : Upd [sl i] w w') : Tab B o n cl sl up ifl (put1 S i us) w' := by
  have hB := T.low i ho hi
  have hlen : ∀ j, (put1 S i us j).length = (S j).length := by
    intro j
    unfold put1
    split
    · rename_i e; rw [e, hl]
    · rfl
  refine ⟨T.few, ?_, ?_, T.inj, T.low, T.upn, T.ifn, ?_, ?_⟩
  · intro j hj
    obtain ⟨k, h1, h2, h3, h4, h5⟩ := T.cls j hj
    have hne := set_ne h1 (T.sets i hi)
    refine ⟨k, (hu.block _ (lt_of_block h1) (by simpa using hne)).trans h1, h2, h3, ?_, ?_⟩
    · refine h4.keep fun p hp => ?_
      have hpb : p.block ≠ sl i := by omega
      by_cases hlt : p.block < w.heap.size
      · have := hu.block p.block hlt (by simpa using hpb)
        unfold World.cell?
        rw [this]
      · exfalso
        have := lt_of_block (T.sets i hi).row
        omega
    · rw [hlen]; exact h5
  · intro j hj
    by_cases e : j = i
    · subst e; rw [put1_self]; exact hs
    · rw [put1_ne _ _ e]
      have h1 := T.sets j hj
      have hne : sl j ≠ sl i := fun h => e (T.inj j i hj hi h)
      exact ⟨(hu.block _ (lt_of_block h1.row) (by simpa using hne)).trans h1.row, h1.word, h1.few⟩
  · intro j h1 h2; rw [hlen]; exact T.wide j h1 h2
  · intro j h1; rw [hlen]; exact T.len j h1
/-- addUp of a class j onto the set of a class i. -/
theorem Tab.addUp (T : Tab B o n cl sl up ifl S w) {i j : Nat} (ho : o ≤ i) (hi : i < n) (hj : j < n) :
    Calls Tryz.prog 123 #[.slice (some ⟨sl i, 0, none⟩) (S i).length (S i).length, ptrV cl (some j)] w fun e w' => ∃ us, ∃ g : Bool, e = .returned (.bool g) ∧ us.length = (S i).length ∧
      (∀ k, bit us k = (bit (S i) k || decide (k = j) || bit (S j) k)) ∧ (g = true ↔ ∃ k, bit us k = true ∧ bit (S i) k = false) ∧ Tab B o n cl sl up ifl (put1 S i us) w' ∧ Upd [sl i] w w' := by
  obtain ⟨k, h1, h2, h3, h4, h5⟩ := T.cls j hj
  have hw := T.wide i ho hi
  have hlj := T.len j hj
  have hfew := T.few
  have hal : sl j = sl i → S j = S i := fun h => by rw [T.inj j i hj hi h]
  refine (addUp_any (T.sets i hi) h1 h5 (T.sets j hj) hal (by rw [h2]; omega) (by rw [h2, hw]; omega) (by omega)).mono ?_
  rintro e w' ⟨us, g, rfl, J, hu⟩
  refine ⟨us, g, rfl, J.len, ?_, J.grown, T.turn ho hi J.row J.len hu, hu⟩
  intro x
  rw [h2] at J
  cases hx : bit us x with
  | true =>
    rcases J.sound x hx with h | h | h
    · simp [h]
    · simp [h]
    · simp [h]
  | false =>
    have n1 : bit (S i) x = false := by
      cases hb : bit (S i) x with
      | false => rfl
      | true => rw [J.keep x hb] at hx; cases hx
    have n2 : x ≠ j := by rintro rfl; rw [J.put] at hx; cases hx
    have n3 : bit (S j) x = false := by
      cases hb : bit (S j) x with
      | false => rfl
      | true => rw [J.done x (bit_lt hb) hb] at hx; cases hx
    simp [n1, n2, n3]
end
end Go.Proofs.YtmaknddlgppinaaGreatDoor
/-! Hk -/
namespace Go.Proofs.YtmaknddlgppinaaGreatDoor
open Go.RowKit

/-- How an element of the map reads: as itself. -/
def PR (v : Value) : Option (DataW Value × List MemPlace) := some (.held v, [])
theorem und9 : Tryz.prog.underlying 9 = some .string := by kernel_rfl
theorem und110 : Tryz.prog.underlying 110 = some (.map 9 108) := by kernel_rfl
theorem zero108 (w : World) : (zeroValue 108).run Tryz.prog w = .ok (.pointer none) w := by kernel_rfl
/-- Block mb is the map of the classes cs by their names; cl: their blocks. -/
def TMap (mb : Nat) (cs : List PC) (cl : Nat → Nat) (w : World) : Prop :=
  ∃ m D, m ≤ cs.length ∧ w.ownsMap Tryz.prog 9 PR mb m D ∧ ∀ nm : List UInt8, D.atKey (.string nm) (.held (.pointer none)) = .held (ptrV cl (ix cs nm))
theorem TMap.look {mb : Nat} {cs : List PC} {cl : Nat → Nat} {w : World} (h : TMap mb cs cl w) (s : ByteArray) (hs : s.size ≤ maxLen) :
    (Instr.lookup 110 (.map (some mb)) (.string s) false).run Tryz.prog w = .ok (ptrV cl (ix cs s.data.toList)) w := by
  obtain ⟨m, D, _, hown, hat⟩ := h
  obtain ⟨v, ps, hrun, hv⟩ := hown.lookup (Maps.string_keyed und9) und110 (zero108 w) (zd := .held (.pointer none)) (zp := []) rfl (WideMaps.keyOf_string_mk und9 hs)
  rw [hat] at hv
  unfold PR at hv
  have : v = ptrV cl (ix cs s.data.toList) := by
    have := Option.some.inj hv
    have := congrArg Prod.fst this
    exact DataW.held.inj this
  rw [hrun, this]
/-- An empty map. -/
theorem TMap.new (w : World) (cl : Nat → Nat) : TMap w.heap.size [] cl (w.alloc (.map #[] 0)) :=
  ⟨0, .map [], by simp, World.ownsMap_made w _ _ _, fun nm => rfl⟩
/-- The map stays while other blocks are turned. -/
theorem TMap.stay {mb : Nat} {cs : List PC} {cl : Nat → Nat} {w w' : World} {S : List Nat} (h : TMap mb cs cl w) (hu : Upd S w w') (hn : mb ∉ S) : TMap mb cs cl w' := by
  obtain ⟨m, D, h1, hown, h3⟩ := h
  obtain ⟨es, clock, hb, F, hs, hD⟩ := hown
  exact ⟨m, D, h1, ⟨es, clock, (hu.block mb (Array.getElem?_eq_some_iff.1 hb).1 hn).trans hb, F, hs, hD⟩, h3⟩
theorem TMap.lt {mb : Nat} {cs : List PC} {cl : Nat → Nat} {w : World} (h : TMap mb cs cl w) : mb < w.heap.size := by
  obtain ⟨m, D, _, hown, _⟩ := h
  exact hown.lt
/-- The map stays where its block does. -/
theorem TMap.same {mb : Nat} {cs : List PC} {cl : Nat → Nat} {w w' : World} (h : TMap mb cs cl w) (hk : w'.heap[mb]? = w.heap[mb]?) : TMap mb cs cl w' := by
  obtain ⟨m, D, h1, ⟨es, clock, hb, F, hs, hD⟩, h3⟩ := h
  exact ⟨m, D, h1, ⟨es, clock, hk.trans hb, F, hs, hD⟩, h3⟩
/-- Other names of the same blocks. -/
theorem TMap.as {mb : Nat} {cs : List PC} {cl cl' : Nat → Nat} {w : World} (h : TMap mb cs cl w) (he : ∀ i, i < cs.length → cl' i = cl i) : TMap mb cs cl' w := by
  obtain ⟨m, D, h1, h2, h3⟩ := h
  refine ⟨m, D, h1, h2, fun nm => ?_⟩
  rw [h3]
  cases hi : ix cs nm with
  | none => rfl
  | some j => simp only [ptrV]; rw [he j (ix_lt hi)]
set_option maxRecDepth 1000000 in
/-- A class is put in: m[name] = c. -/
theorem TMap.put {mb : Nat} {cs : List PC} {cl : Nat → Nat} {w : World} (h : TMap mb cs cl w) (c : PC) {s : ByteArray} (hs : s.size ≤ maxLen) (hn : c.name = s.data.toList) (hnew : ix cs c.name = none) (hl : cs.length < 1000000) :
    ∃ w', (Instr.mapUpdate 110 (.map (some mb)) (.string s) (.pointer (some ⟨cl cs.length, 0, none⟩))).run Tryz.prog w = .ok () w' ∧ TMap mb (cs ++ [c]) cl w' ∧ w.grownBy w' (some mb) := by
  obtain ⟨m, D, hm, hown, hat⟩ := h
  obtain ⟨w', hrun, hown', hg⟩ := hown.update (Maps.string_keyed und9) und110 (by unfold maxLen; omega) (WideMaps.keyOf_string_mk und9 hs) (val := .pointer (some ⟨cl cs.length, 0, none⟩)) (d := .held (.pointer (some ⟨cl cs.length, 0, none⟩))) (ps := []) rfl
  refine ⟨w', hrun, ⟨m + 1, _, by simp; omega, hown', fun nm => ?_⟩, hg⟩
  by_cases e : nm = s.data.toList
  · subst e
    rw [Maps.atKey_put_same hown.isMap (show WideAt.IsKeyLit (.string s.data.toList) from trivial), ix_app_none (by rw [← hn]; exact hnew)]
    simp [ix, hn, ptrV]
  · have hne : (Lit.string nm) ≠ (Lit.string s.data.toList) := fun h => e (by injection h)
    rw [Maps.atKey_put_other hne, hat]
    congr 2
    cases hi : ix cs nm with
    | some j => rw [ix_app hi]
    | none =>
      rw [ix_app_none hi]
      simp [ix, hn, Ne.symm e]
end Go.Proofs.YtmaknddlgppinaaGreatDoor
