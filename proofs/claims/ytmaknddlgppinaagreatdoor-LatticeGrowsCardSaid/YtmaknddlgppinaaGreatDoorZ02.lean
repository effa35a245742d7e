/-
  CUT and joined from the texts of this seat: W5 W6 W8 Rt
-/
import Derived.Test.YtmaknddlgppinaaGreatDoorZ01
import Derived.Lib.OthersKept
import Derived.Laws.IdiomStrings
import Derived.Laws.Cover4
set_option linter.unusedVariables false
set_option linter.unusedSimpArgs false
namespace Go.Proofs.YtmaknddlgppinaaGreatDoor
open Go.RowKit
theorem Tryz.info5 : (Tryz.prog.info? 5).map (fun i => (i.zero, i.size, i.bytes)) = some (some (.int .u8 0), 1, 1) := by kernel_rfl
def bcells (l : List UInt8) : List Value := l.map fun b => .int .u8 (b.toNat : Int)
theorem bcells_append (a b : List UInt8) : bcells (a ++ b) = bcells a ++ bcells b := by simp [bcells]
theorem new_cells (w : World) (cs : List Value) (t : TypeId) : ∀ j u, cs[j]? = some u → (w.alloc (.cells cs.toArray t)).cell? (({ block := w.heap.size, off := 0 } : Addr).add j) = some u := by
 intro j u h
 have e : (({ block := w.heap.size, off := 0 } : Addr).add j) = ⟨w.heap.size, j, none⟩ := by
  simp [Addr.add]
  intro hj
  exact hj.symm
 rw [e]
 have := World.cell?_alloc_mark w cs.toArray t (0, 0) j
 rw [this]
 simpa using h
theorem i32_and_mask (a k : Nat) (ha : a < 2147483648) (hk : k ≤ 30) : bits .and .i32 (a : Int) ((2 ^ k - 1 : Nat) : Int) = ((a % 2 ^ k : Nat) : Int) := by
 have hp : 2 ^ k ≤ 2 ^ 30 := Nat.pow_le_pow_right (by omega) hk
 have hp0 : 0 < 2 ^ k := Nat.two_pow_pos k
 have hm : a % 2 ^ k < 2 ^ k := Nat.mod_lt _ hp0
 show IntKind.i32.wrap ((BitVec.ofInt 32 (a : Int) &&& BitVec.ofInt 32 ((2 ^ k - 1 : Nat) : Int)).toNat : Int) = _
 rw [BitVec.toNat_and, ofInt_i32 a ha, ofInt_i32 _ (by omega), Nat.and_two_pow_sub_one_eq_mod, IntKind.wrap_i32]
 omega
theorem and63_i32 (a : Nat) (ha : a < 2147483648) : bits .and .i32 (a : Int) 63 = ((a % 64 : Nat) : Int) := i32_and_mask a 6 ha (by omega)
theorem and1023_i32 (a : Nat) (ha : a < 2147483648) : bits .and .i32 (a : Int) 1023 = ((a % 1024 : Nat) : Int) := i32_and_mask a 10 ha (by omega)
theorem low_byte (a : Nat) (ha : a < 2147483648) : wrap32 (128 + bits .and .i32 (a : Int) 63) % 256 = ((128 + a % 64 : Nat) : Int) := by
 rw [and63_i32 a ha]
 unfold wrap32
 omega
theorem mid_byte (a : Nat) (ha : a < 2147483648) : wrap32 (128 + bits .and .i32 ((a : Int) / 64) 63) % 256 = ((128 + a / 64 % 64 : Nat) : Int) := by
 have : ((a : Int) / 64) = ((a / 64 : Nat) : Int) := by omega
 rw [this]
 exact low_byte (a / 64) (by omega)
theorem int_cells (k : IntKind) (l : List Int) : ∀ u ∈ l.map (Value.int k), u.oneCell' = true := by
 intro u hu
 obtain ⟨x, _, rfl⟩ := List.mem_map.1 hu
 rfl
set_option maxRecDepth 1000000 in
set_option maxHeartbeats 400000 in
theorem appendUnit_1 (u : Nat) (hu : 1 ≤ u ∧ u < 128) (v : Value) (n : Nat) (xs : List Value) (base : Nat) (w : World) (hown : w.ownsRow base 5 1 v n xs) (hn : n ≤ 1000000000) (hb : base ≤ w.heap.size) :
  Calls Tryz.prog 201 #[v, .int .i32 u] w fun e w' => ∃ v', e = .returned v' ∧ w'.ownsRow base 5 1 v' (n + (un u).length) (xs ++ bcells (un u)) ∧ w.grownBy w' v.ownBlock := by
 obtain ⟨i0, hi, hz0, hz1, hz2⟩ := info_parts Tryz.info5
 have hrl := fun W => runeLen_any (u : Int) W
 rw [rlen_1 (by omega)] at hrl
 have HRL := Lib.hid hrl
 clear hrl
 have hun : un u = [UInt8.ofNat u] := by simp [un, unN, bs, hu]
 have hbc : bcells (un u) = [.int .u8 (u : Int)] := by rw [hun]; simp [bcells]; omega
 have HU := Lib.hid hun
 have HB := Lib.hid hbc
 clear hun hbc
 go_enter Tryz.func201, Tryz.ntmps201
 go_wp2_with (first | (go_at_call 200; refine (HRL.out _).mono ?_; rintro e w' ⟨rfl, rfl⟩) | (at_builtin; refine wpList_append_own _ rfl (.tmp 9) (.tmp 12) 166 rfl base 5 i0 (.int .u8 0) 1 1 Tryz.underlying166 hi hz0 hz1 hz2 rfl (by decide) _ _ _ rfl (hown.alloc _) ⟨w.heap.size, 0, none⟩ 1 1 [.int .u8 u] rfl rfl ?c1 ?c2 ?c3 ?c4 ?c5 ?_))
 case c1 => exact new_cells w [.int .u8 (u : Int)] 5
 case c2 => exact int_cells .u8 [(u : Int)]
 case c3 => unfold maxLen; omega
 case c4 => omega
 case c5 => simp; omega
 intro v' w1 hown' hgrow _
 clear hown
 have HO := Lib.hid hown'
 clear hown'
 go_wp2
 go_ret
 refine ⟨v', rfl, ?_, ?_⟩
 ·have := HO.out
  rw [HB.out, HU.out]
  exact this
 ·exact ⟨hgrow.os, hgrow.tape, hgrow.output, Nat.le_trans (by simp) hgrow.size, fun k hk hne => (hgrow.block k (by simp; omega) hne).trans (Below.heap_alloc w _ k hk)⟩
set_option maxRecDepth 1000000 in
set_option maxHeartbeats 400000 in
theorem appendUnit_2 (u : Nat) (hu : ¬ (1 ≤ u ∧ u < 128)) (hu2 : u < 2048) (v : Value) (n : Nat) (xs : List Value) (base : Nat) (w : World) (hown : w.ownsRow base 5 1 v n xs) (hn : n ≤ 1000000000) (hb : base ≤ w.heap.size) :
  Calls Tryz.prog 201 #[v, .int .i32 u] w fun e w' => ∃ v', e = .returned v' ∧ w'.ownsRow base 5 1 v' (n + (un u).length) (xs ++ bcells (un u)) ∧ w.grownBy w' v.ownBlock := by
 obtain ⟨i0, hi, hz0, hz1, hz2⟩ := info_parts Tryz.info5
 have hrl := fun W => runeLen_any (u : Int) W
 rw [rlen_2 (by omega) (by omega)] at hrl
 have HRL := Lib.hid hrl
 clear hrl
 have hun : un u = bs [192 + u / 64, 128 + u % 64] := by simp only [un, unN, if_neg hu, if_pos hu2]
 have hbc : bcells (un u) = [192 + (u : Int) / 64, wrap32 (128 + bits BinOp.and IntKind.i32 (u : Int) 63) % 256].map (Value.int .u8) := by
  have m1 := low_byte u (by omega)
  rw [hun]
  simp only [m1, bs, bcells, List.map_cons, List.map_nil, UInt8.toNat_ofNat']
  congr 1 <;> first | (congr 1; omega) | (congr 1 <;> first | (congr 1; omega) | (congr 1; congr 1; omega))
 have hl : (un u).length = 2 := by rw [hun]; rfl
 have HU := Lib.hid hl
 have HB := Lib.hid hbc
 clear hun hbc hl
 go_enter Tryz.func201, Tryz.ntmps201
 go_wp2_with (first | (go_at_call 200; refine (HRL.out _).mono ?_; rintro e w' ⟨rfl, rfl⟩) | (at_builtin; refine wpList_append_own _ rfl (.tmp 16) (.tmp 25) 166 rfl base 5 i0 (.int .u8 0) 1 1 Tryz.underlying166 hi hz0 hz1 hz2 rfl (by decide) _ _ _ rfl (hown.alloc _) ⟨w.heap.size, 0, none⟩ 2 2 [.int .u8 (192 + (u : Int) / 64), .int .u8 (wrap32 (128 + bits BinOp.and IntKind.i32 (u : Int) 63) % 256)] rfl rfl ?c1 ?c2 ?c3 ?c4 ?c5 ?_))
 case c1 => exact new_cells w [.int .u8 (192 + (u : Int) / 64), .int .u8 (wrap32 (128 + bits BinOp.and IntKind.i32 (u : Int) 63) % 256)] 5
 case c2 => exact int_cells .u8 [192 + (u : Int) / 64, wrap32 (128 + bits BinOp.and IntKind.i32 (u : Int) 63) % 256]
 case c3 => unfold maxLen; omega
 case c4 => omega
 case c5 => simp; omega
 intro v' w1 hown' hgrow _
 clear hown
 have HO := Lib.hid hown'
 clear hown'
 go_wp2
 go_ret
 refine ⟨v', rfl, ?_, ?_⟩
 ·have := HO.out
  rw [HB.out, HU.out]
  exact this
 ·exact ⟨hgrow.os, hgrow.tape, hgrow.output, Nat.le_trans (by simp) hgrow.size, fun k hk hne => (hgrow.block k (by simp; omega) hne).trans (Below.heap_alloc w _ k hk)⟩
set_option maxRecDepth 1000000 in
set_option maxHeartbeats 400000 in
theorem appendUnit_3 (u : Nat) (hu : 2048 ≤ u) (hu2 : u < 65536) (v : Value) (n : Nat) (xs : List Value) (base : Nat) (w : World) (hown : w.ownsRow base 5 1 v n xs) (hn : n ≤ 1000000000) (hb : base ≤ w.heap.size) :
  Calls Tryz.prog 201 #[v, .int .i32 u] w fun e w' => ∃ v', e = .returned v' ∧ w'.ownsRow base 5 1 v' (n + (un u).length) (xs ++ bcells (un u)) ∧ w.grownBy w' v.ownBlock := by
 obtain ⟨i0, hi, hz0, hz1, hz2⟩ := info_parts Tryz.info5
 have hrl := fun W => runeLen_any (u : Int) W
 rw [rlen_3 (by omega) (by omega)] at hrl
 have HRL := Lib.hid hrl
 clear hrl
 have hun : un u = bs [224 + u / 4096, 128 + u / 64 % 64, 128 + u % 64] := by simp only [un, unN, if_neg (show ¬ (1 ≤ u ∧ u < 128) by omega), if_neg (show ¬ u < 2048 by omega)]
 have hbc : bcells (un u) = [224 + (u : Int) / 4096, wrap32 (128 + bits BinOp.and IntKind.i32 ((u : Int) / 64) 63) % 256, wrap32 (128 + bits BinOp.and IntKind.i32 (u : Int) 63) % 256].map (Value.int .u8) := by
  have m1 := low_byte u (by omega)
  have m2 := mid_byte u (by omega)
  rw [hun]
  simp only [m1, m2, bs, bcells, List.map_cons, List.map_nil, UInt8.toNat_ofNat']
  congr 1 <;> first | (congr 1; omega) | (congr 1 <;> first | (congr 1; omega) | (congr 1; congr 1; omega))
 have hl : (un u).length = 3 := by rw [hun]; rfl
 have HU := Lib.hid hl
 have HB := Lib.hid hbc
 clear hun hbc hl
 go_enter Tryz.func201, Tryz.ntmps201
 go_wp2_with (first | (go_at_call 200; refine (HRL.out _).mono ?_; rintro e w' ⟨rfl, rfl⟩) | (at_builtin; refine wpList_append_own _ rfl (.tmp 27) (.tmp 41) 166 rfl base 5 i0 (.int .u8 0) 1 1 Tryz.underlying166 hi hz0 hz1 hz2 rfl (by decide) _ _ _ rfl (hown.alloc _) ⟨w.heap.size, 0, none⟩ 3 3 [.int .u8 (224 + (u : Int) / 4096), .int .u8 (wrap32 (128 + bits BinOp.and IntKind.i32 ((u : Int) / 64) 63) % 256), .int .u8 (wrap32 (128 + bits BinOp.and IntKind.i32 (u : Int) 63) % 256)] rfl rfl ?c1 ?c2 ?c3 ?c4 ?c5 ?_))
 case c1 => exact new_cells w [.int .u8 (224 + (u : Int) / 4096), .int .u8 (wrap32 (128 + bits BinOp.and IntKind.i32 ((u : Int) / 64) 63) % 256), .int .u8 (wrap32 (128 + bits BinOp.and IntKind.i32 (u : Int) 63) % 256)] 5
 case c2 => exact int_cells .u8 [224 + (u : Int) / 4096, wrap32 (128 + bits BinOp.and IntKind.i32 ((u : Int) / 64) 63) % 256, wrap32 (128 + bits BinOp.and IntKind.i32 (u : Int) 63) % 256]
 case c3 => unfold maxLen; omega
 case c4 => omega
 case c5 => simp; omega
 intro v' w1 hown' hgrow _
 clear hown
 have HO := Lib.hid hown'
 clear hown'
 go_wp2
 go_ret
 refine ⟨v', rfl, ?_, ?_⟩
 ·have := HO.out
  rw [HB.out, HU.out]
  exact this
 ·exact ⟨hgrow.os, hgrow.tape, hgrow.output, Nat.le_trans (by simp) hgrow.size, fun k hk hne => (hgrow.block k (by simp; omega) hne).trans (Below.heap_alloc w _ k hk)⟩
theorem appendUnit_any (u : Nat) (hu : u < 65536) (v : Value) (n : Nat) (xs : List Value) (base : Nat) (w : World) (hown : w.ownsRow base 5 1 v n xs) (hn : n ≤ 1000000000) (hb : base ≤ w.heap.size) :
  Calls Tryz.prog 201 #[v, .int .i32 u] w fun e w' => ∃ v', e = .returned v' ∧ w'.ownsRow base 5 1 v' (n + (un u).length) (xs ++ bcells (un u)) ∧ w.grownBy w' v.ownBlock := by
 by_cases h1 : 1 ≤ u ∧ u < 128
 ·exact appendUnit_1 u h1 v n xs base w hown hn hb
 by_cases h2 : u < 2048
 ·exact appendUnit_2 u h1 h2 v n xs base w hown hn hb
 ·exact appendUnit_3 u (by omega) hu v n xs base w hown hn hb
/-- Below block 'base' all is as it was; so is each iterator over a string, wherever it lies. -/
structure KeptI (base : Nat) (w w' : World) : Prop where
 below : Below base w w'
 iter : ∀ (k : Nat) (s : ByteArray) (p : Nat), w.heap[k]? = some (Obj.stringIter s p) → w'.heap[k]? = some (Obj.stringIter s p)
theorem KeptI.refl (base : Nat) (w : World) : KeptI base w w := ⟨Below.refl _ _, fun _ _ _ h => h⟩
theorem KeptI.trans {base : Nat} {a b c : World} (h : KeptI base a b) (k : KeptI base b c) : KeptI base a c := ⟨h.below.trans k.below, fun i s p e => k.iter i s p (h.iter i s p e)⟩
theorem KeptI.grown {base : Nat} {w w' : World} {e : TypeId} {size : Nat} {v : Value} {n : Nat} {xs : List Value} (hown : w.ownsRow base e size v n xs) (hb : base ≤ w.heap.size) (hg : w.grownBy w' v.ownBlock) : KeptI base w w' := by
 refine ⟨(Below.refl _ _).grown hg hb (fun k hk => (hown.lt k hk).1), fun k s p h => ?_⟩
 rw [hg.block k (Array.getElem?_eq_some_iff.1 h).1 ?_]
 ·exact h
 ·intro e1
  rcases hown.2 with ⟨rfl, _⟩ | ⟨g, cap, cur, rfl, _, hgg, _⟩
  ·simp [Value.ownBlock] at e1
  ·simp [Value.ownBlock] at e1
   subst e1
   rw [hgg] at h
   cases h
theorem KeptI.drew {base : Nat} {a w : World} (h : KeptI base a w) : KeptI base a w.drew := ⟨h.below.drew, h.iter⟩
theorem KeptI.drewN {base : Nat} {a w : World} (h : KeptI base a w) (n : Nat) : KeptI base a (w.drewN n) := ⟨below_drewN h.below n, h.iter⟩
theorem KeptI.alloc {base : Nat} {a w : World} (h : KeptI base a w) (hB : base ≤ w.heap.size) (o : Obj) : KeptI base a (w.alloc o) :=
 ⟨h.below.alloc hB o, fun k s p e => by
  have e1 := h.iter k s p e
  rw [Below.heap_alloc w o k (Array.getElem?_eq_some_iff.1 e1).1]
  exact e1⟩
theorem KeptI.mono {base base' : Nat} {a w : World} (h : KeptI base a w) (hb : base' ≤ base) : KeptI base' a w := ⟨h.below.mono hb, h.iter⟩
/-- An owned row, when an iterator is moved on. -/
theorem own_iterAt {w : World} {base : Nat} {e : TypeId} {size : Nat} {v : Value} {n : Nat} {xs : List Value} (h : w.ownsRow base e size v n xs) {k : Nat} {s : ByteArray} {p : Nat} (hk : w.heap[k]? = some (.stringIter s p)) (q : Nat) :
  (w.iterAt k s q).ownsRow base e size v n xs := by
 refine ⟨h.1, ?_⟩
 rcases h.2 with hn | ⟨g, cap, cur, hv, hb, hgg, rest⟩
 ·exact .inl hn
 ·refine .inr ⟨g, cap, cur, hv, hb, ?_, rest⟩
  rw [Lib.iterAt_other w k g s q]
  ·exact hgg
  ·intro e1
   rw [e1, hk] at hgg
   cases hgg
/-- 'string(b)' of an owned row of bytes. -/
theorem string_owned {w : World} {base : Nat} {v : Value} {l : List UInt8} (h : w.ownsRow base 5 1 v l.length (bcells l)) : (convert 166 9 v).run Tryz.prog w = .ok (.string ⟨l.toArray⟩) w := by
 rcases h.2 with ⟨rfl, hn⟩ | ⟨g, cap, cur, rfl, hb, hgg, rest⟩
 ·have : l = [] := List.eq_nil_of_length_eq_zero hn
  subst this
  rw [run_convert_bytes_string w 166 9 5 none 0 0 Tryz.underlying166 Tryz.underlying5 Tryz.underlying9]
  rfl
 ·refine run_convert_bytes_back w 166 9 5 ⟨g, 0, none⟩ cap l Tryz.underlying166 Tryz.underlying5 Tryz.underlying9 ?_
  intro j hj
  exact h.cells (g := g) rfl j _ (by simp [bcells, hj])
set_option maxRecDepth 1000000 in
set_option maxHeartbeats 400000 in
theorem appendRune_1 (r : Nat) (h1 : r < 65536) (v : Value) (n : Nat) (xs : List Value) (base : Nat) (w : World) (hown : w.ownsRow base 5 1 v n xs) (hn : n ≤ 500000000) (hb : base ≤ w.heap.size) :
  Calls Tryz.prog 196 #[v, .int .i32 r] w fun e w' => ∃ v', e = .returned v' ∧ w'.ownsRow base 5 1 v' (n + (mb r).length) (xs ++ bcells (mb r)) ∧ KeptI base w w' := by
 have hm := Lib.hid (show mb r = un r by unfold mb; rw [if_pos h1])
 have HC := Lib.hid (appendUnit_any r h1 v n xs base w hown (by omega) hb)
 have HO := Lib.hid hown
 clear hown
 go_enter Tryz.func196, Tryz.ntmps196
 go_wp2_with fail
 refine HC.out.mono ?_
 rintro e w' ⟨v', rfl, hown', hg⟩
 have HO' := Lib.hid hown'
 clear hown'
 go_wp2
 go_ret
 exact ⟨v', rfl, by rw [hm.out]; exact HO'.out, KeptI.grown HO.out hb hg⟩
set_option maxRecDepth 1000000 in
set_option maxHeartbeats 400000 in
theorem appendRune_2 (z : Int) (hz1 : 65536 ≤ z) (hz2 : z ≤ 1114111) (v : Value) (n : Nat) (xs : List Value) (base : Nat) (w : World) (hown : w.ownsRow base 5 1 v n xs) (hn : n ≤ 500000000) (hb : base ≤ w.heap.size) :
  Calls Tryz.prog 196 #[v, .int .i32 z] w fun e w' => ∃ v', e = .returned v' ∧ w'.ownsRow base 5 1 v' (n + (mb z.toNat).length) (xs ++ bcells (mb z.toNat)) ∧ KeptI base w w' := by
 have hm := Lib.hid (show mb z.toNat = un (55296 + (z.toNat - 65536) / 1024) ++ un (56320 + (z.toNat - 65536) % 1024) by unfold mb; rw [if_neg (by omega)])
 have ea : ((55296 + (z.toNat - 65536) / 1024 : Nat) : Int) = 55296 + (z - 65536) / 1024 := by omega
 have e0 : ((z.toNat - 65536 : Nat) : Int) = z - 65536 := by omega
 have eb := and1023_i32 (z.toNat - 65536) (by omega)
 rw [e0] at eb
 have ec : ((56320 + (z.toNat - 65536) % 1024 : Nat) : Int) = 56320 + bits .and .i32 (z - 65536) 1023 := by rw [eb]; omega
 have ed : 0 ≤ bits .and .i32 (z - 65536) 1023 ∧ bits .and .i32 (z - 65536) 1023 ≤ 1023 := by rw [eb]; omega
 obtain ⟨ed1, ed2⟩ := ed
 have hl1 := (un_length (55296 + (z.toNat - 65536) / 1024)).2
 have HC := appendUnit_any (55296 + (z.toNat - 65536) / 1024) (by omega) v n xs base w hown (by omega) hb
 rw [ea] at HC
 have HC := Lib.hid HC
 have HC2 : ∀ (v : Value) (n : Nat) (xs : List Value) (W : World), W.ownsRow base 5 1 v n xs → n ≤ 1000000000 → base ≤ W.heap.size →
  Calls Tryz.prog 201 #[v, .int .i32 (56320 + bits .and .i32 (z - 65536) 1023)] W fun e w' => ∃ v', e = .returned v' ∧ w'.ownsRow base 5 1 v' (n + (un (56320 + (z.toNat - 65536) % 1024)).length) (xs ++ bcells (un (56320 + (z.toNat - 65536) % 1024))) ∧ W.grownBy w' v.ownBlock := by
  intro v n xs W a b c
  have := appendUnit_any (56320 + (z.toNat - 65536) % 1024) (by omega) v n xs base W a b c
  rw [ec] at this
  exact this
 have HC2 := Lib.hid HC2
 have HO := Lib.hid hown
 clear hown ea e0 eb ec
 go_enter Tryz.func196, Tryz.ntmps196
 go_wp2_with fail
 refine HC.out.mono ?_
 rintro e w1 ⟨v1, rfl, hown1, hg1⟩
 have HO1 := Lib.hid hown1
 have HG1 := Lib.hid hg1
 have hb1 : base ≤ w1.heap.size := Nat.le_trans hb hg1.size
 clear hown1 hg1
 go_wp2_with fail
 refine (HC2.out v1 _ _ w1 HO1.out (by omega) hb1).mono ?_
 rintro e w2 ⟨v2, rfl, hown2, hg2⟩
 have HO2 := Lib.hid hown2
 have HG2 := Lib.hid hg2
 clear hown2 hg2
 go_wp2
 go_ret
 refine ⟨v2, rfl, ?_, (KeptI.grown HO.out hb HG1.out).trans (KeptI.grown HO1.out hb1 HG2.out)⟩
 have := HO2.out
 rw [hm.out, bcells_append, List.length_append, ← List.append_assoc, ← Nat.add_assoc]
 exact this
theorem appendRune_any (r : Nat) (hr : Scal r) (v : Value) (n : Nat) (xs : List Value) (base : Nat) (w : World) (hown : w.ownsRow base 5 1 v n xs) (hn : n ≤ 500000000) (hb : base ≤ w.heap.size) :
  Calls Tryz.prog 196 #[v, .int .i32 r] w fun e w' => ∃ v', e = .returned v' ∧ w'.ownsRow base 5 1 v' (n + (mb r).length) (xs ++ bcells (mb r)) ∧ KeptI base w w' := by
 by_cases h1 : r < 65536
 ·exact appendRune_1 r h1 v n xs base w hown hn hb
 ·unfold Scal at hr
  exact appendRune_2 (r : Int) (by omega) (by omega) v n xs base w hown hn hb
/-- What Encode answers: the bytes, and the error's number. -/
def encA (l : List UInt8) : List UInt8 := if validL l = true ∧ (encL l).length ≤ 65535 then encL l else []
def encE (l : List UInt8) : Int := if validL l = true then (if (encL l).length ≤ 65535 then 0 else 2) else 4
theorem encL_cons {s : ByteArray} {pos r j : Nat} (h : runes ((L s).drop pos) = r :: runes ((L s).drop (pos + j))) : encL ((L s).drop pos) = mb r ++ encL ((L s).drop (pos + j)) := by unfold encL; rw [h]; rfl
def strV (l : List UInt8) : Value := .string ⟨l.toArray⟩
theorem valid_at (b : Bool) (s : ByteArray) (w : World) (h : validL (L s) = b) : Calls Tryz.prog 139 #[.string s] w fun e w' => e = .returned (.bool b) ∧ Below w.heap.size w w' := by
 have := valid_any s w
 rwa [h] at this
set_option maxRecDepth 1000000 in
set_option maxHeartbeats 800000 in
theorem Encode_any (s : ByteArray) (w : World) (hs : s.size ≤ 1000000000000000000) :
  Calls Tryz.prog 185 #[.string s] w fun e w' => e = .returned (.tuple #[strV (encA (L s)), .int .i64 (encE (L s))]) ∧ Below w.heap.size w w' := by
 by_cases hv : validL (L s) = true
 ·have HV := Lib.hid (valid_at true s w hv)
  by_cases hl : (encL (L s)).length ≤ 65535
  ·have hA := Lib.hid (show encA (L s) = encL (L s) by unfold encA; rw [if_pos ⟨hv, hl⟩])
   have hE : encE (L s) = 0 := by unfold encE; rw [if_pos hv, if_pos hl]
   have HL := fun W => Lib.hid (encodedLen_any s W hs)
   obtain ⟨i0, hi, hz0, hz1, hz2⟩ := info_parts Tryz.info5
   rw [hE]
   obtain ⟨m, hm⟩ : ∃ m, (encL (L s)).length = m := ⟨_, rfl⟩
   have HM := Lib.hid hm
   rw [hm] at hl HL
   clear hv hE hm
   go_enter Tryz.func185, Tryz.ntmps185
   go_wp2_with fail
   refine HV.out.mono ?_
   rintro e w1 ⟨rfl, hb1⟩
   go_wp2_with fail
   refine (HL w1).out.mono ?_
   rintro e w2 ⟨rfl, hb2⟩
   have hz2s : w1.heap.size ≤ w2.heap.size := hb2.size
   have hz1s : w.heap.size ≤ w1.heap.size := hb1.size
   have hB2 : Below w.heap.size w w2 := hb1.trans (hb2.mono hz1s)
   clear hb1 hb2
   go_wp2_with (at_make; refine wpList_make_own _ rfl _ _ 166 rfl w2.heap.size 5 i0 (.int .u8 0) 1 Tryz.underlying166 hi hz0 hz1 _ _ _ m rfl rfl rfl ?b1 ?b2 ?b3 ?_)
   case b1 => rw [hz2]; omega
   case b2 => unfold maxLen; omega
   case b3 => omega
   intro w3 hown3 hg3
   have hB3 : Below w.heap.size w w3 := hB2.grown hg3 (by omega) (fun k hk => by simp at hk)
   have hs3 := hg3.size
   have HO3 := Lib.hid hown3
   clear hown3 hB2 hg3
   go_wp2
   go_loopw [5, 7] (fun b _ wr => ∃ (pos : Nat) (pre : List UInt8), wr.heap[w3.heap.size]? = some (Obj.stringIter s pos) ∧ wr.ownsRow w2.heap.size 5 1 b pre.length (bcells pre) ∧ pre ++ encL ((L s).drop pos) = encL (L s) ∧ Below w.heap.size w wr ∧ w3.heap.size < wr.heap.size) (fun _ _ wr => s.size - wr.iterPos w3.heap.size)
   case atStart =>
    refine ⟨0, [], World.iter_heap w3 s 0, ?_, rfl, ?_, by simp [World.iter]⟩
    ·exact HO3.out.alloc _
    ·exact hB3.alloc (by omega) _
   case round =>
    obtain ⟨pos, pre, hit, hown, hpre, hbel, hsz⟩ := hrel
    have HIT := Lib.hid hit
    have HOWN := Lib.hid hown
    have HPRE := Lib.hid hpre
    clear hown hpre
    by_cases hp : pos < s.size
    ·obtain ⟨r, j, e1, _, hj, hjs, hsc, e2, _⟩ := step_at hp
     have E2 := Lib.hid (encL_cons e2)
     have hnx : ∀ ty, (Instr.next (.pointer (some ⟨w3.heap.size, 0, none⟩)) true ty).run Tryz.prog wr = .ok (.tuple #[.bool true, .int .i64 pos, .int .i32 r]) (wr.iterAt w3.heap.size s (pos + j)) := by
      intro ty
      have := Lib.run_next_any_at (P := Tryz.prog) wr w3.heap.size s pos ty hit hp
      rw [e1] at this
      exact this
     have hpl : pre.length ≤ 500000000 := by
      have a := congrArg List.length HPRE.out
      have b := HM.out
      simp only [List.length_append] at a
      omega
     have hsi : (wr.iterAt w3.heap.size s (pos + j)).heap.size = wr.heap.size := Lib.iterAt_size _ _ _ _
     have HR := Lib.hid (appendRune_any r hsc u5 pre.length (bcells pre) w2.heap.size (wr.iterAt w3.heap.size s (pos + j)) (own_iterAt HOWN.out hit (pos + j)) hpl (by rw [hsi]; omega))
     have HSI := Lib.hid hsi
     clear e1 e2 hit hsi
     go_wp2_with fail
     refine HR.out.mono ?_
     rintro e w4 ⟨v4, rfl, hown4, hk4⟩
     have HO4 := Lib.hid hown4
     have HK4 := Lib.hid hk4
     clear hown4 hk4
     go_wp2
     go_roundw
     case rel =>
      refine ⟨pos + j, pre ++ mb r, ?_, ?_, ?_, ?_, ?_⟩
      ·exact HK4.out.iter _ _ _ (Lib.iterAt_heap wr w3.heap.size s pos (pos + j) HIT.out)
      ·rw [bcells_append, List.length_append]; exact HO4.out
      ·rw [List.append_assoc, ← E2.out]; exact HPRE.out
      ·exact (Lib.below_iterAt hbel (by omega) s (pos + j)).trans (HK4.out.below.mono (by omega))
      ·have := HK4.out.below.size
       rw [HSI.out] at this
       omega
     case measure =>
      rw [iterPos_of (HK4.out.iter _ _ _ (Lib.iterAt_heap wr w3.heap.size s pos (pos + j) HIT.out)), iterPos_of HIT.out]
      omega
    ·have hnx : ∀ ty, (Instr.next (.pointer (some ⟨w3.heap.size, 0, none⟩)) true ty).run Tryz.prog wr = .ok (.tuple #[.bool false]) wr := fun ty => Lib.run_next_end_at wr w3.heap.size s pos ty hit hp
     have hfin : pre = encL (L s) := by
      have a := HPRE.out
      rw [drop_end hp] at a
      have z : encL [] = [] := rfl
      rw [z, List.append_nil] at a
      exact a
     have hcv : (convert 166 9 u5).run Tryz.prog wr = .ok (strV pre) wr := string_owned HOWN.out
     have HFIN := Lib.hid hfin
     clear hit hfin
     go_wp2
     go_ret2
     refine ⟨?_, hbel⟩
     rw [hA.out, ← HFIN.out]
     rfl
  ·have hA := Lib.hid (show encA (L s) = [] by unfold encA; rw [if_neg (fun h => hl h.2)])
   have hE : encE (L s) = 2 := by unfold encE; rw [if_pos hv, if_neg hl]
   have HL := fun W => Lib.hid (encodedLen_any s W hs)
   rw [hE]
   obtain ⟨m, hm⟩ : ∃ m, (encL (L s)).length = m := ⟨_, rfl⟩
   rw [hm] at hl HL
   clear hv hE hm
   go_enter Tryz.func185, Tryz.ntmps185
   go_wp2_with fail
   refine HV.out.mono ?_
   rintro e w1 ⟨rfl, hb1⟩
   go_wp2_with fail
   refine (HL w1).out.mono ?_
   rintro e w2 ⟨rfl, hb2⟩
   have hz2s : w1.heap.size ≤ w2.heap.size := hb2.size
   have hz1s : w.heap.size ≤ w1.heap.size := hb1.size
   have hB2 : Below w.heap.size w w2 := hb1.trans (hb2.mono hz1s)
   clear hb1 hb2
   go_wp2
   go_ret2
   refine ⟨?_, hB2⟩
   rw [hA.out]
   rfl
 ·have hv' : validL (L s) = false := by simpa using hv
  have HV := Lib.hid (valid_at false s w hv')
  have hA := Lib.hid (show encA (L s) = [] by unfold encA; rw [if_neg (fun h => hv h.1)])
  have hE : encE (L s) = 4 := by unfold encE; rw [if_neg hv]
  rw [hE]
  clear hv hv' hE
  go_enter Tryz.func185, Tryz.ntmps185
  go_wp2_with fail
  refine HV.out.mono ?_
  rintro e w1 ⟨rfl, hb1⟩
  go_wp2
  go_ret2
  refine ⟨?_, hb1⟩
  rw [hA.out]
  rfl
def nameGo (k : Nat) (rs : List Nat) : Bool := decide (rs.length + k ≤ 64) && rs.all fun (r : Nat) => nameB (r : Int)
def nameL (l : List UInt8) : Bool := nameGo 0 (runes l) && decide (0 < (runes l).length) && validL l
theorem nameGo_cons (k r : Nat) (rs : List Nat) : nameGo k (r :: rs) = (nameB (r : Int) && nameGo (k + 1) rs) := by
 unfold nameGo
 rw [Bool.eq_iff_iff]
 simp only [List.length_cons, List.all_cons, Bool.and_eq_true, decide_eq_true_eq]
 constructor
 ·rintro ⟨a, b, c⟩; exact ⟨b, by omega, c⟩
 ·rintro ⟨a, b, c⟩; exact ⟨by omega, a, c⟩
theorem nameRune_true (r : Int) (w : World) (h : nameB r = true) : Calls Tryz.prog 138 #[.int .i32 r] w fun e w' => e = .returned (.bool true) ∧ w = w' := by
 have := nameRune_any r w
 rwa [h] at this
theorem nameRune_false (r : Int) (w : World) (h : nameB r = false) : Calls Tryz.prog 138 #[.int .i32 r] w fun e w' => e = .returned (.bool false) ∧ w = w' := by
 have := nameRune_any r w
 rwa [h] at this
set_option maxRecDepth 1000000 in
set_option maxHeartbeats 800000 in
theorem Name_any (s : ByteArray) (w : World) :
  Calls Tryz.prog 124 #[.string s] w fun e w' => e = .returned (.bool (nameL (L s))) ∧ Below w.heap.size w w' := by
 go_enter Tryz.func124, Tryz.ntmps124
 go_wp2
 go_loopw [3, 5] (fun n _ w' => ∃ pos k : Nat, w' = w.iter s pos ∧ n = .int .i64 k ∧ k ≤ 64 ∧ nameGo k (runes ((L s).drop pos)) = nameGo 0 (runes (L s)) ∧ k + (runes ((L s).drop pos)).length = (runes (L s)).length) (fun _ _ w' => s.size - w'.iterPos w.heap.size)
 case atStart => exact ⟨0, 0, rfl, rfl, by omega, by simp, by simp⟩
 case round =>
  obtain ⟨pos, k, rfl, rfl, hk, hgo, hcnt⟩ := hrel
  have HGO := Lib.hid hgo
  have HC := Lib.hid hcnt
  clear hgo hcnt
  by_cases hp : pos < s.size
  ·obtain ⟨r, j, e1, _, hj, hjs, hsc, e2, _⟩ := step_at hp
   have hnx : ∀ ty, (Instr.next (.pointer (some ⟨w.heap.size, 0, none⟩)) true ty).run Tryz.prog (w.iter s pos) = _ := fun ty => run_next_any w s pos ty hp
   rw [e1] at hnx
   have E2 := Lib.hid e2
   clear e1 e2
   by_cases h64 : k = 64
   ·subst h64
    have hres := Lib.hid (show nameL (L s) = false by
     unfold nameL
     rw [← HGO.out, E2.out]
     have : nameGo 64 (r :: runes ((L s).drop (pos + j))) = false := by
      unfold nameGo
      rw [decide_eq_false (by simp), Bool.false_and]
     rw [this]
     rfl)
    go_wp2
    go_ret
    exact ⟨ret_bool hres.out.symm, (Below.refl _ _).alloc (Nat.le_refl _) _⟩
   ·by_cases hnb : nameB (r : Int) = true
    ·have HN := fun W => Lib.hid (nameRune_true (r : Int) W hnb)
     have HNB := Lib.hid hnb
     clear hnb
     go_wp2_with (go_at_call 138; refine (HN _).out.mono ?_; rintro e w' ⟨rfl, rfl⟩)
     go_roundw
     case rel =>
      refine ⟨pos + j, k + 1, rfl, by go_num, by omega, ?_, ?_⟩
      ·rw [← HGO.out, E2.out, nameGo_cons, HNB.out, Bool.true_and]
      ·have := HC.out
       rw [E2.out] at this
       simp only [List.length_cons] at this
       omega
     case measure => simp; omega
    ·have hnb' : nameB (r : Int) = false := by simpa using hnb
     have HN := fun W => Lib.hid (nameRune_false (r : Int) W hnb')
     have hres := Lib.hid (show nameL (L s) = false by
      unfold nameL
      rw [← HGO.out, E2.out, nameGo_cons, hnb']
      rfl)
     clear hnb hnb'
     go_wp2_with (go_at_call 138; refine (HN _).out.mono ?_; rintro e w' ⟨rfl, rfl⟩)
     go_ret
     exact ⟨ret_bool hres.out.symm, (Below.refl _ _).alloc (Nat.le_refl _) _⟩
  ·have hnx : ∀ ty, (Instr.next (.pointer (some ⟨w.heap.size, 0, none⟩)) true ty).run Tryz.prog (w.iter s pos) = _ := fun ty => run_next_end w s pos ty hp
   have hlen : k = (runes (L s)).length := by
    have := HC.out
    rw [drop_end hp, runes_nil] at this
    simpa using this
   have hgo1 : nameGo 0 (runes (L s)) = true := by
    rw [← HGO.out, drop_end hp, runes_nil]
    unfold nameGo
    simp; omega
   have hB := (Below.refl w.heap.size w).alloc (Nat.le_refl _) (Obj.stringIter s pos)
   have hB : Below w.heap.size w (w.iter s pos) := hB
   by_cases hk0 : k = 0
   ·have hres := Lib.hid (show nameL (L s) = false by
     unfold nameL
     rw [← hlen, hk0]
     simp)
    subst hk0
    clear hlen hgo1
    go_wp2
    go_ret
    exact ⟨ret_bool hres.out.symm, hB⟩
   ·have hres := Lib.hid (show nameL (L s) = validL (L s) by
     unfold nameL
     rw [← hlen, hgo1, decide_eq_true (by omega), Bool.true_and, Bool.true_and])
    have HV := Lib.hid (valid_any s (w.iter s pos))
    have hws : w.heap.size ≤ (w.iter s pos).heap.size := hB.size
    clear hlen hgo1
    go_wp2_with (go_at_call 139; refine HV.out.mono ?_; rintro e w' ⟨rfl, hb2⟩)
    go_ret
    exact ⟨ret_bool hres.out.symm, hB.trans (hb2.mono hws)⟩
/-- A type is right. -/
def rightT (d : Int) (s : List UInt8) : Bool := decide (0 ≤ d) && (decide (d ≤ 4) && (decide (s = []) || nameL s))
/-- .. and none of int. -/
def refT (d : Int) (s : List UInt8) : Bool := rightT d s && (decide (0 < d) || decide (s ≠ []))
end Go.Proofs.YtmaknddlgppinaaGreatDoor
