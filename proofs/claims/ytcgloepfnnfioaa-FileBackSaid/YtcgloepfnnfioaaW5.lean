/-
  PRUNED by wip/tools/prunem.py: what these texts need of an earlier stage's.
-/
import Derived.Test.YtcgloepfnnfioaaW4
set_option linter.unusedVariables false
set_option linter.unusedSimpArgs false
namespace Go.Proofs.Ytcgloepfnnfioaa
open Go.RowKit

theorem Try.info5 : (Try.prog.info? 5).map (fun i => (i.zero, i.size, i.bytes)) = some (some (.int .u8 0), 1, 1) := by kernel_rfl
theorem Try.info21 : (Try.prog.info? 21).map (fun i => (i.zero, i.size, i.bytes)) = some (some (.int .i32 0), 1, 4) := by kernel_rfl
def bcells (l : List UInt8) : List Value := l.map fun b => .int .u8 (b.toNat : Int)
theorem bcells_append (a b : List UInt8) : bcells (a ++ b) = bcells a ++ bcells b := by simp [bcells]
theorem new_cells (w : World) (cs : List Value) (t : TypeId) : ∀ j u, cs[j]? = some u → (w.alloc (.cells cs.toArray t)).cell? (({ block := w.heap.size, off := 0 } : Addr).add j) = some u := by
  intro j u h
  have e : (({ block := w.heap.size, off := 0 } : Addr).add j) = ⟨w.heap.size, j, none⟩ := by
    simp [Addr.add]
    intro hj
    exact hj.symm
  rw [e]
  have := World.cell?_alloc_mark w cs.toArray t (0, 0) j
  rw [this]
  simpa using h
theorem i32_and_mask (a k : Nat) (ha : a < 2147483648) (hk : k ≤ 30) : bits .and .i32 (a : Int) ((2 ^ k - 1 : Nat) : Int) = ((a % 2 ^ k : Nat) : Int) := by
  have hp : 2 ^ k ≤ 2 ^ 30 := Nat.pow_le_pow_right (by omega) hk
  have hp0 : 0 < 2 ^ k := Nat.two_pow_pos k
  have hm : a % 2 ^ k < 2 ^ k := Nat.mod_lt _ hp0
  show IntKind.i32.wrap ((BitVec.ofInt 32 (a : Int) &&& BitVec.ofInt 32 ((2 ^ k - 1 : Nat) : Int)).toNat : Int) = _
  rw [BitVec.toNat_and, ofInt_i32 a ha, ofInt_i32 _ (by omega), Nat.and_two_pow_sub_one_eq_mod, IntKind.wrap_i32]
  omega
theorem and63_i32 (a : Nat) (ha : a < 2147483648) : bits .and .i32 (a : Int) 63 = ((a % 64 : Nat) : Int) := i32_and_mask a 6 ha (by omega)
theorem and1023_i32 (a : Nat) (ha : a < 2147483648) : bits .and .i32 (a : Int) 1023 = ((a % 1024 : Nat) : Int) := i32_and_mask a 10 ha (by omega)
theorem low_byte (a : Nat) (ha : a < 2147483648) : wrap32 (128 + bits .and .i32 (a : Int) 63) % 256 = ((128 + a % 64 : Nat) : Int) := by
  rw [and63_i32 a ha]
  unfold wrap32
  omega
theorem mid_byte (a : Nat) (ha : a < 2147483648) : wrap32 (128 + bits .and .i32 ((a : Int) / 64) 63) % 256 = ((128 + a / 64 % 64 : Nat) : Int) := by
  have : ((a : Int) / 64) = ((a / 64 : Nat) : Int) := by omega
  rw [this]
  exact low_byte (a / 64) (by omega)
theorem int_cells (k : IntKind) (l : List Int) : ∀ u ∈ l.map (Value.int k), u.oneCell' = true := by
  intro u hu
  obtain ⟨x, _, rfl⟩ := List.mem_map.1 hu
  rfl
set_option maxRecDepth 1000000 in
set_option maxHeartbeats 400000 in
theorem appendUnit_1 (u : Nat) (hu : 1 ≤ u ∧ u < 128) (v : Value) (n : Nat) (xs : List Value) (base : Nat) (w : World) (hown : w.ownsRow base 5 1 v n xs) (hn : n ≤ 1000000000) (hb : base ≤ w.heap.size) :
    Calls Try.prog 121 #[v, .int .i32 u] w fun e w' => ∃ v', e = .returned v' ∧ w'.ownsRow base 5 1 v' (n + (un u).length) (xs ++ bcells (un u)) ∧ w.grownBy w' v.ownBlock := by
  obtain ⟨i0, hi, hz0, hz1, hz2⟩ := info_parts Try.info5
  have hrl := fun W => runeLen_any (u : Int) W
  rw [rlen_1 (by omega)] at hrl
  have HRL := Lib.hid hrl
  clear hrl
  have hun : un u = [UInt8.ofNat u] := by simp [un, unN, bs, hu]
  have hbc : bcells (un u) = [.int .u8 (u : Int)] := by rw [hun]; simp [bcells]; omega
  have HU := Lib.hid hun
  have HB := Lib.hid hbc
  clear hun hbc
  go_enter Try.func121, Try.ntmps121
  go_wp2_with (first | (go_at_call 120; refine (HRL.out _).mono ?_; rintro e w' ⟨rfl, rfl⟩) | (at_builtin; refine wpList_append_own _ rfl (.tmp 9) (.tmp 12) 49 rfl base 5 i0 (.int .u8 0) 1 1 Try.underlying49 hi hz0 hz1 hz2 rfl (by decide) _ _ _ rfl (hown.alloc _) ⟨w.heap.size, 0, none⟩ 1 1 [.int .u8 u] rfl rfl ?c1 ?c2 ?c3 ?c4 ?c5 ?_))
  case c1 => exact new_cells w [.int .u8 (u : Int)] 5
  case c2 => exact int_cells .u8 [(u : Int)]
  case c3 => unfold maxLen; omega
  case c4 => omega
  case c5 => simp; omega
  intro v' w1 hown' hgrow _
  clear hown
  have HO := Lib.hid hown'
  clear hown'
  go_wp2
  go_ret
  refine ⟨v', rfl, ?_, ?_⟩
  · have := HO.out
    rw [HB.out, HU.out]
    exact this
  · exact ⟨hgrow.os, hgrow.tape, hgrow.output, Nat.le_trans (by simp) hgrow.size, fun k hk hne => (hgrow.block k (by simp; omega) hne).trans (Below.heap_alloc w _ k hk)⟩
set_option maxRecDepth 1000000 in
set_option maxHeartbeats 400000 in
theorem appendUnit_2 (u : Nat) (hu : ¬ (1 ≤ u ∧ u < 128)) (hu2 : u < 2048) (v : Value) (n : Nat) (xs : List Value) (base : Nat) (w : World) (hown : w.ownsRow base 5 1 v n xs) (hn : n ≤ 1000000000) (hb : base ≤ w.heap.size) :
    Calls Try.prog 121 #[v, .int .i32 u] w fun e w' => ∃ v', e = .returned v' ∧ w'.ownsRow base 5 1 v' (n + (un u).length) (xs ++ bcells (un u)) ∧ w.grownBy w' v.ownBlock := by
  obtain ⟨i0, hi, hz0, hz1, hz2⟩ := info_parts Try.info5
  have hrl := fun W => runeLen_any (u : Int) W
  rw [rlen_2 (by omega) (by omega)] at hrl
  have HRL := Lib.hid hrl
  clear hrl
  have hun : un u = bs [192 + u / 64, 128 + u % 64] := by simp only [un, unN, if_neg hu, if_pos hu2]
  have hbc : bcells (un u) = [192 + (u : Int) / 64, wrap32 (128 + bits BinOp.and IntKind.i32 (u : Int) 63) % 256].map (Value.int .u8) := by
    have m1 := low_byte u (by omega)
    rw [hun]
    simp only [m1, bs, bcells, List.map_cons, List.map_nil, UInt8.toNat_ofNat']
    congr 1 <;> first | (congr 1; omega) | (congr 1 <;> first | (congr 1; omega) | (congr 1; congr 1; omega))
  have hl : (un u).length = 2 := by rw [hun]; rfl
  have HU := Lib.hid hl
  have HB := Lib.hid hbc
  clear hun hbc hl
  go_enter Try.func121, Try.ntmps121
  go_wp2_with (first | (go_at_call 120; refine (HRL.out _).mono ?_; rintro e w' ⟨rfl, rfl⟩) | (at_builtin; refine wpList_append_own _ rfl (.tmp 16) (.tmp 25) 49 rfl base 5 i0 (.int .u8 0) 1 1 Try.underlying49 hi hz0 hz1 hz2 rfl (by decide) _ _ _ rfl (hown.alloc _) ⟨w.heap.size, 0, none⟩ 2 2 [.int .u8 (192 + (u : Int) / 64), .int .u8 (wrap32 (128 + bits BinOp.and IntKind.i32 (u : Int) 63) % 256)] rfl rfl ?c1 ?c2 ?c3 ?c4 ?c5 ?_))
  case c1 => exact new_cells w [.int .u8 (192 + (u : Int) / 64), .int .u8 (wrap32 (128 + bits BinOp.and IntKind.i32 (u : Int) 63) % 256)] 5
  case c2 => exact int_cells .u8 [192 + (u : Int) / 64, wrap32 (128 + bits BinOp.and IntKind.i32 (u : Int) 63) % 256]
  case c3 => unfold maxLen; omega
  case c4 => omega
  case c5 => simp; omega
  intro v' w1 hown' hgrow _
  clear hown
  have HO := Lib.hid hown'
  clear hown'
  go_wp2
  go_ret
  refine ⟨v', rfl, ?_, ?_⟩
  · have := HO.out
    rw [HB.out, HU.out]
    exact this
  · exact ⟨hgrow.os, hgrow.tape, hgrow.output, Nat.le_trans (by simp) hgrow.size, fun k hk hne => (hgrow.block k (by simp; omega) hne).trans (Below.heap_alloc w _ k hk)⟩
set_option maxRecDepth 1000000 in
set_option maxHeartbeats 400000 in
theorem appendUnit_3 (u : Nat) (hu : 2048 ≤ u) (hu2 : u < 65536) (v : Value) (n : Nat) (xs : List Value) (base : Nat) (w : World) (hown : w.ownsRow base 5 1 v n xs) (hn : n ≤ 1000000000) (hb : base ≤ w.heap.size) :
    Calls Try.prog 121 #[v, .int .i32 u] w fun e w' => ∃ v', e = .returned v' ∧ w'.ownsRow base 5 1 v' (n + (un u).length) (xs ++ bcells (un u)) ∧ w.grownBy w' v.ownBlock := by
  obtain ⟨i0, hi, hz0, hz1, hz2⟩ := info_parts Try.info5
  have hrl := fun W => runeLen_any (u : Int) W
  rw [rlen_3 (by omega) (by omega)] at hrl
  have HRL := Lib.hid hrl
  clear hrl
  have hun : un u = bs [224 + u / 4096, 128 + u / 64 % 64, 128 + u % 64] := by simp only [un, unN, if_neg (show ¬ (1 ≤ u ∧ u < 128) by omega), if_neg (show ¬ u < 2048 by omega)]
  have hbc : bcells (un u) = [224 + (u : Int) / 4096, wrap32 (128 + bits BinOp.and IntKind.i32 ((u : Int) / 64) 63) % 256, wrap32 (128 + bits BinOp.and IntKind.i32 (u : Int) 63) % 256].map (Value.int .u8) := by
    have m1 := low_byte u (by omega)
    have m2 := mid_byte u (by omega)
    rw [hun]
    simp only [m1, m2, bs, bcells, List.map_cons, List.map_nil, UInt8.toNat_ofNat']
    congr 1 <;> first | (congr 1; omega) | (congr 1 <;> first | (congr 1; omega) | (congr 1; congr 1; omega))
  have hl : (un u).length = 3 := by rw [hun]; rfl
  have HU := Lib.hid hl
  have HB := Lib.hid hbc
  clear hun hbc hl
  go_enter Try.func121, Try.ntmps121
  go_wp2_with (first | (go_at_call 120; refine (HRL.out _).mono ?_; rintro e w' ⟨rfl, rfl⟩) | (at_builtin; refine wpList_append_own _ rfl (.tmp 27) (.tmp 41) 49 rfl base 5 i0 (.int .u8 0) 1 1 Try.underlying49 hi hz0 hz1 hz2 rfl (by decide) _ _ _ rfl (hown.alloc _) ⟨w.heap.size, 0, none⟩ 3 3 [.int .u8 (224 + (u : Int) / 4096), .int .u8 (wrap32 (128 + bits BinOp.and IntKind.i32 ((u : Int) / 64) 63) % 256), .int .u8 (wrap32 (128 + bits BinOp.and IntKind.i32 (u : Int) 63) % 256)] rfl rfl ?c1 ?c2 ?c3 ?c4 ?c5 ?_))
  case c1 => exact new_cells w [.int .u8 (224 + (u : Int) / 4096), .int .u8 (wrap32 (128 + bits BinOp.and IntKind.i32 ((u : Int) / 64) 63) % 256), .int .u8 (wrap32 (128 + bits BinOp.and IntKind.i32 (u : Int) 63) % 256)] 5
  case c2 => exact int_cells .u8 [224 + (u : Int) / 4096, wrap32 (128 + bits BinOp.and IntKind.i32 ((u : Int) / 64) 63) % 256, wrap32 (128 + bits BinOp.and IntKind.i32 (u : Int) 63) % 256]
  case c3 => unfold maxLen; omega
  case c4 => omega
  case c5 => simp; omega
  intro v' w1 hown' hgrow _
  clear hown
  have HO := Lib.hid hown'
  clear hown'
  go_wp2
  go_ret
  refine ⟨v', rfl, ?_, ?_⟩
  · have := HO.out
    rw [HB.out, HU.out]
    exact this
  · exact ⟨hgrow.os, hgrow.tape, hgrow.output, Nat.le_trans (by simp) hgrow.size, fun k hk hne => (hgrow.block k (by simp; omega) hne).trans (Below.heap_alloc w _ k hk)⟩
theorem appendUnit_any (u : Nat) (hu : u < 65536) (v : Value) (n : Nat) (xs : List Value) (base : Nat) (w : World) (hown : w.ownsRow base 5 1 v n xs) (hn : n ≤ 1000000000) (hb : base ≤ w.heap.size) :
    Calls Try.prog 121 #[v, .int .i32 u] w fun e w' => ∃ v', e = .returned v' ∧ w'.ownsRow base 5 1 v' (n + (un u).length) (xs ++ bcells (un u)) ∧ w.grownBy w' v.ownBlock := by
  by_cases h1 : 1 ≤ u ∧ u < 128
  · exact appendUnit_1 u h1 v n xs base w hown hn hb
  by_cases h2 : u < 2048
  · exact appendUnit_2 u h1 h2 v n xs base w hown hn hb
  · exact appendUnit_3 u (by omega) hu v n xs base w hown hn hb
end Go.Proofs.Ytcgloepfnnfioaa
