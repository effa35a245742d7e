/-
  WALKS of numbers that are read.
-/
import Derived.Test.YtjdaaecbnhcoaaaDoorK1
set_option linter.unusedVariables false
set_option linter.unusedSimpArgs false
namespace Go.Proofs.YtjdaaecbnhcoaaaDoor
open Go.RowKit

theorem get_b1 (s : ByteArray) (i : Nat) (h : i < s.size) : ((s[i]'h).toNat) = b1 (L s) i := by
  unfold b1
  congr 1
  have h' : i < (L s).length := by rw [← size_L]; exact h
  simp only [List.getD, List.getElem?_eq_getElem h', Option.getD_some]
  rfl
theorem L_extract (s : ByteArray) (i j : Nat) : L (s.extract i j) = ((L s).drop i).take (j - i) := by
  have := Lib.extract_toList s i j
  simp [L, this]
theorem b1_extract (s : ByteArray) (i j k : Nat) (h : i + k < j) : b1 (L (s.extract i j)) k = b1 (L s) (i + k) := by
  rw [L_extract]
  unfold b1
  congr 1
  simp only [List.getD, List.getElem?_take, List.getElem?_drop]
  rw [if_pos (by omega)]
/-- The bytes of a text, laid anew. -/
theorem bytes_of (t : ByteArray) (W : World) : ∃ C cap m, (convert 9 46 (.string t)).run Tryd.prog W = .ok (.slice (some ⟨W.heap.size, 0, none⟩) t.size cap) (W.drew.alloc (.cells C 5 m)) ∧
    ∀ (V : World) (j : Nat), V.heap.size = W.heap.size → j < t.size → (V.alloc (.cells C 5 m)).cell? ⟨W.heap.size, j, none⟩ = some (.int .u8 (b1 (L t) j)) := by
  refine ⟨_, _, _, run_bytes_of_string W 9 46 5 t Tryd.underlying9 Tryd.underlying46 Tryd.underlying5, fun V j hV hj => ?_⟩
  have := World.cell?_alloc_mark V (bytesRow t (grownCap W t.size 0 5)) 5 ((bytesRow t (grownCap W t.size 0 5)).size, (bytesRow t (grownCap W t.size 0 5)).size + 1) j
  rw [hV] at this
  refine Eq.trans this ?_
  unfold bytesRow
  have h2 : j < t.data.size := hj
  rw [Array.getElem?_append_left (by simpa using h2)]
  rw [Array.getElem?_map, Array.getElem?_eq_getElem h2]
  simp only [Option.map_some, Option.some.injEq, Value.int.injEq, true_and]
  have := get_b1 t j hj
  rw [← this]
  rfl
theorem or_nat (a c : Nat) (ha : a < 1099511627776) (hc : c < 256) : bits .or .i64 ((256 * a : Nat) : Int) (c : Int) = ((256 * a + c : Nat) : Int) := by
  show IntKind.i64.wrap ((BitVec.ofInt 64 ((256 * a : Nat) : Int) ||| BitVec.ofInt 64 (c : Int)).toNat : Int) = _
  have h1 : BitVec.ofInt 64 ((256 * a : Nat) : Int) = BitVec.ofNat 64 (256 * a) := BitVec.ofInt_natCast _ _
  have h2 : BitVec.ofInt 64 ((c : Nat) : Int) = BitVec.ofNat 64 c := by simp
  rw [h1, h2, BitVec.toNat_or, BitVec.toNat_ofNat, BitVec.toNat_ofNat, Nat.mod_eq_of_lt (by omega), Nat.mod_eq_of_lt (by omega)]
  have := Nat.two_pow_add_eq_or_of_lt (i := 8) (b := c) (by omega) a
  rw [show (2 : Nat) ^ 8 = 256 by rfl] at this
  rw [← this]
  exact IntWalk.i64_in _ (by omega)
theorem or_int (a c : Int) (ha : 0 ≤ a ∧ a < 1099511627776) (hc : 0 ≤ c ∧ c < 256) : bits .or .i64 (a * 256) c = 256 * a + c := by
  rw [Int.mul_comm a 256]
  obtain ⟨n, rfl⟩ : ∃ n : Nat, a = n := ⟨a.toNat, by omega⟩
  obtain ⟨k, rfl⟩ : ∃ k : Nat, c = k := ⟨c.toNat, by omega⟩
  have := or_nat n k (by omega) (by omega)
  simpa using this
theorem or_zero (c : Int) (hc : 0 ≤ c ∧ c < 256) : bits .or .i64 0 c = c := by
  have := or_int 0 c (by omega) hc
  simpa using this
theorem But.drew {b c : Nat} {w w' : World} (h : But b c w w') : But b c w w'.drew := ⟨h.os, h.tape, h.output, h.size, h.block⟩
set_option maxHeartbeats 1600000 in
theorem two_any (s : ByteArray) (w : World) (h : 2 ≤ s.size) :
    Calls Tryd.prog 44 #[.string s] w fun e w' => e = .returned (.int .i64 (b2 (L s) 0)) ∧ ∃ n, w' = w.drewN n := by
  have h0 : 0 < s.size := by omega
  have h1 : 1 < s.size := by omega
  have h1' : (1 : Int) < (s.size : Int) := by omega
  have h0' : (0 : Int) < (s.size : Int) := by omega
  have E0 := Lib.hid (get_b1 s 0 h0)
  have E1 := Lib.hid (get_b1 s 1 h1)
  have B0 : ((s[0]'h0).toNat : Int) < 256 := by have := (s[0]'h0).toNat_lt; omega
  have B1 : ((s[1]'h1).toNat : Int) < 256 := by have := (s[1]'h1).toNat_lt; omega
  go_enter Tryd.func44, Tryd.ntmps44
  go_wp2
  go_quiet (fail)
  go_wp2
  go_ret
  exact ⟨ret_i (by unfold b2; rw [← E0.out, ← E1.out]), _, rfl⟩
set_option maxRecDepth 1000000 in
set_option maxHeartbeats 1600000 in
theorem read1_no (s : ByteArray) (q : Nat) (w : World) (h : s.size < 1) :
    Calls Tryd.prog 41 #[.string s, .int .i64 1, .slice (some ⟨q, 0, none⟩) 1 1] w fun e w' => e = .returned (.tuple #[.string ⟨#[]⟩, .bool false]) ∧ w = w' := by
  go_enter Tryd.func41, Tryd.ntmps41
  go_wp2
  go_ret2
  exact ⟨rfl, rfl⟩
set_option maxRecDepth 1000000 in
set_option maxHeartbeats 1600000 in
theorem read2_no (s : ByteArray) (q : Nat) (w : World) (h : s.size < 2) :
    Calls Tryd.prog 41 #[.string s, .int .i64 2, .slice (some ⟨q, 0, none⟩) 1 1] w fun e w' => e = .returned (.tuple #[.string ⟨#[]⟩, .bool false]) ∧ w = w' := by
  go_enter Tryd.func41, Tryd.ntmps41
  go_wp2
  go_ret2
  exact ⟨rfl, rfl⟩
set_option maxRecDepth 1000000 in
set_option maxHeartbeats 1600000 in
theorem read22_no (s : ByteArray) (q : Nat) (w : World) (h : s.size < 4) :
    Calls Tryd.prog 41 #[.string s, .int .i64 2, .slice (some ⟨q, 0, none⟩) 2 2] w fun e w' => e = .returned (.tuple #[.string ⟨#[]⟩, .bool false]) ∧ w = w' := by
  go_enter Tryd.func41, Tryd.ntmps41
  go_wp2
  go_ret2
  exact ⟨rfl, rfl⟩
set_option maxRecDepth 1000000 in
set_option maxHeartbeats 1600000 in
theorem read1_yes (s : ByteArray) (q b o : Nat) (cs : Array Value) (t : TypeId) (x : Value) (w : World) (h : 1 ≤ s.size) (hq : w.cell? ⟨q, 0, none⟩ = some (.pointer (some ⟨b, o, none⟩))) (hb : w.heap[b]? = some (.cells cs t (0, 0))) (ho : cs[o]? = some x) (hqb : q < w.heap.size) (hne : q ≠ b) :
    Calls Tryd.prog 41 #[.string s, .int .i64 1, .slice (some ⟨q, 0, none⟩) 1 1] w fun e w' => e = .returned (.tuple #[.string (s.extract 1 s.size), .bool true]) ∧ w'.heap[b]? = some (.cells (cs.setIfInBounds o (.int .i64 (b1 (L s) 0))) t (0, 0)) ∧ But b b w w' := by
  have hbl := lt_of_block hb
  have hoc : o < cs.size := (Array.getElem?_eq_some_iff.1 ho).1
  have hco := cells_of hb o
  rw [ho] at hco
  have hfo := free_of hb o
  obtain ⟨C, cap, m, hrun, hC⟩ := bytes_of (s.extract 0 1) (w.setCell ⟨b, o, none⟩ (.int .i64 0))
  have hsz : (s.extract 0 1).size = 1 := by rw [ByteArray.size_extract]; omega
  have hC0 := fun V hV => hC V 0 hV (by omega)
  have hbv0 := b1_lt (L (s.extract 0 1)) 0
  have HV0 := Lib.hid (b1_extract s 0 1 0 (by omega))
  obtain ⟨c0, hc0⟩ : ∃ c : Int, c = (b1 (L (s.extract 0 1)) 0 : Int) := ⟨_, rfl⟩
  rw [← hc0] at hC0
  have hl0 : 0 ≤ c0 := by omega
  have hu0 : c0 < 256 := by omega
  have HC0 := Lib.hid hc0
  rw [hsz] at hrun
  rw [show (w.setCell ⟨b, o, none⟩ (.int .i64 0)).heap.size = w.heap.size by simp [World.setCell]] at hrun hC0
  have hz := or_zero c0 ⟨hl0, hu0⟩
  have hx0 := hC0 (w.setCell ⟨b, o, none⟩ (.int .i64 0)) (by simp [World.setCell])
  have HB := Lib.hid hb
  have HO := Lib.hid ho
  clear hC hsz hb ho hC0 hc0 hbv0
  go_enter Tryd.func41, Tryd.ntmps41
  go_wp2
  refine wp_loop_rounds 2 ?_
  rw [rounds_succ]
  go_wp2
  refine wp_loop_rounds 2 ?_
  rw [rounds_succ]
  go_wp2
  rw [rounds_succ]
  go_wp2
  rw [rounds_succ]
  go_wp2
  go_ret2
  refine ⟨rfl, ?_, ?_⟩
  · have e := heap_set_eq (u := .int .i64 c0) (heap_set_eq (u := .int .i64 0) HB.out hoc) (by simpa using hoc)
    simp only [Array.setIfInBounds_setIfInBounds] at e
    have hv : c0 = (b1 (L s) 0 : Int) := by
      rw [HC0.out, HV0.out]
    rw [← hv]
    first | exact heap_alloc_lt e | (rw [← HZ.out] at e; exact heap_alloc_lt e)
  · exact ((((But.refl b b w).set b (.inl rfl)).set b (.inl rfl)).alloc _).drew
set_option maxRecDepth 1000000 in
set_option maxHeartbeats 1600000 in
theorem read2_yes (s : ByteArray) (q b o : Nat) (cs : Array Value) (t : TypeId) (x : Value) (w : World) (h : 2 ≤ s.size) (hq : w.cell? ⟨q, 0, none⟩ = some (.pointer (some ⟨b, o, none⟩))) (hb : w.heap[b]? = some (.cells cs t (0, 0))) (ho : cs[o]? = some x) (hqb : q < w.heap.size) (hne : q ≠ b) :
    Calls Tryd.prog 41 #[.string s, .int .i64 2, .slice (some ⟨q, 0, none⟩) 1 1] w fun e w' => e = .returned (.tuple #[.string (s.extract 2 s.size), .bool true]) ∧ w'.heap[b]? = some (.cells (cs.setIfInBounds o (.int .i64 (b2 (L s) 0))) t (0, 0)) ∧ But b b w w' := by
  have hbl := lt_of_block hb
  have hoc : o < cs.size := (Array.getElem?_eq_some_iff.1 ho).1
  have hco := cells_of hb o
  rw [ho] at hco
  have hfo := free_of hb o
  obtain ⟨C, cap, m, hrun, hC⟩ := bytes_of (s.extract 0 2) (w.setCell ⟨b, o, none⟩ (.int .i64 0))
  have hsz : (s.extract 0 2).size = 2 := by rw [ByteArray.size_extract]; omega
  have hC0 := fun V hV => hC V 0 hV (by omega)
  have hbv0 := b1_lt (L (s.extract 0 2)) 0
  have HV0 := Lib.hid (b1_extract s 0 2 0 (by omega))
  obtain ⟨c0, hc0⟩ : ∃ c : Int, c = (b1 (L (s.extract 0 2)) 0 : Int) := ⟨_, rfl⟩
  rw [← hc0] at hC0
  have hl0 : 0 ≤ c0 := by omega
  have hu0 : c0 < 256 := by omega
  have HC0 := Lib.hid hc0
  have hC1 := fun V hV => hC V 1 hV (by omega)
  have hbv1 := b1_lt (L (s.extract 0 2)) 1
  have HV1 := Lib.hid (b1_extract s 0 2 1 (by omega))
  obtain ⟨c1, hc1⟩ : ∃ c : Int, c = (b1 (L (s.extract 0 2)) 1 : Int) := ⟨_, rfl⟩
  rw [← hc1] at hC1
  have hl1 : 0 ≤ c1 := by omega
  have hu1 : c1 < 256 := by omega
  have HC1 := Lib.hid hc1
  rw [hsz] at hrun
  rw [show (w.setCell ⟨b, o, none⟩ (.int .i64 0)).heap.size = w.heap.size by simp [World.setCell]] at hrun hC0 hC1
  have hz := or_zero c0 ⟨hl0, hu0⟩
  have hz1 := or_int c0 c1 ⟨hl0, by omega⟩ ⟨hl1, hu1⟩
  have HZ := Lib.hid hz1
  have hx0 := hC0 (w.setCell ⟨b, o, none⟩ (.int .i64 0)) (by simp [World.setCell])
  have hx1 := hC1 ((w.setCell ⟨b, o, none⟩ (.int .i64 0)).setCell ⟨b, o, none⟩ (.int .i64 c0)) (by simp [World.setCell])
  have HB := Lib.hid hb
  have HO := Lib.hid ho
  clear hC hsz hb ho hC0 hc0 hbv0 hC1 hc1 hbv1
  go_enter Tryd.func41, Tryd.ntmps41
  go_wp2
  refine wp_loop_rounds 2 ?_
  rw [rounds_succ]
  go_wp2
  refine wp_loop_rounds 3 ?_
  rw [rounds_succ]
  go_wp2
  rw [rounds_succ]
  go_wp2
  rw [rounds_succ]
  go_wp2
  rw [rounds_succ]
  go_wp2
  go_ret2
  refine ⟨rfl, ?_, ?_⟩
  · have e := heap_set_eq (u := .int .i64 (256 * c0 + c1)) (heap_set_eq (u := .int .i64 c0) (heap_set_eq (u := .int .i64 0) HB.out hoc) (by simpa using hoc)) (by simpa using hoc)
    simp only [Array.setIfInBounds_setIfInBounds] at e
    have hv : 256 * c0 + c1 = b2 (L s) 0 := by
      unfold b2
      rw [HC0.out, HC1.out, HV0.out, HV1.out]
    rw [← hv]
    first | exact heap_alloc_lt e | (rw [← HZ.out] at e; exact heap_alloc_lt e)
  · exact (((((But.refl b b w).set b (.inl rfl)).set b (.inl rfl)).set b (.inl rfl)).alloc _).drew
theorem heap_set_one {w : World} {b : Nat} {x u : Value} {t : TypeId} {m : Nat × Nat} (h : w.heap[b]? = some (.cells #[x] t m)) : (w.setCell ⟨b, 0, none⟩ u).heap[b]? = some (.cells #[u] t m) := by
  have := heap_set_eq (u := u) h (i := 0) (by simp)
  simpa using this
theorem But.cell {b c : Nat} {w w' : World} (h : But b c w w') {q i : Nat} (hq : q < w.heap.size) (h1 : q ≠ b) (h2 : q ≠ c) : w'.cell? ⟨q, i, none⟩ = w.cell? ⟨q, i, none⟩ := World.cell?_of_block (w := w) (h.block q hq h1 h2)
theorem L_from (s : ByteArray) (k : Nat) : L (s.extract k s.size) = (L s).drop k := by
  rw [L_extract]
  rw [List.take_of_length_le]
  rw [List.length_drop, ← size_L]
  omega
theorem b1_drop (l : List UInt8) (i j : Nat) : b1 (l.drop i) j = b1 l (i + j) := by
  unfold b1
  congr 1
  simp only [List.getD, List.getElem?_drop]
theorem b2_drop (l : List UInt8) (i j : Nat) : b2 (l.drop i) j = b2 l (i + j) := by
  unfold b2
  rw [b1_drop, b1_drop, Nat.add_assoc]
set_option maxRecDepth 1000000 in
set_option maxHeartbeats 3200000 in
theorem read22_yes (s : ByteArray) (q p1 p2 : Nat) (x1 x2 : Value) (w : World) (h : 4 ≤ s.size) (hm : s.size ≤ 1000000000) (hq0 : w.cell? ⟨q, 0, none⟩ = some (.pointer (some ⟨p1, 0, none⟩))) (hq1 : w.cell? ⟨q, 1, none⟩ = some (.pointer (some ⟨p2, 0, none⟩))) (hb1 : w.heap[p1]? = some (.cells #[x1] 3 (0, 0))) (hb2 : w.heap[p2]? = some (.cells #[x2] 3 (0, 0))) (hqb : q < w.heap.size) (hne1 : q ≠ p1) (hne2 : q ≠ p2) (hne : p1 ≠ p2) :
    Calls Tryd.prog 41 #[.string s, .int .i64 2, .slice (some ⟨q, 0, none⟩) 2 2] w fun e w' => ∃ t, e = .returned (.tuple #[.string t, .bool true]) ∧ L t = (L s).drop 4 ∧ w'.heap[p1]? = some (.cells #[.int .i64 (b2 (L s) 0)] 3 (0, 0)) ∧ w'.heap[p2]? = some (.cells #[.int .i64 (b2 (L s) 2)] 3 (0, 0)) ∧ But p1 p2 w w' := by
  have hbl1 := lt_of_block hb1
  have hbl2 := lt_of_block hb2
  have HB1 := Lib.hid hb1
  have HB2 := Lib.hid hb2
  have HQ0 := Lib.hid hq0
  have HQ1 := Lib.hid hq1
  clear hb1 hb2 hq0 hq1
  go_enter Tryd.func41, Tryd.ntmps41
  go_wp2
  go_loopw [0, 21] (fun s' i wr => ∃ (k : Nat) (t : ByteArray), k ≤ 2 ∧ i = .int .i64 k ∧ s' = .string t ∧ L t = (L s).drop (2 * k) ∧ wr.heap[p1]? = some (.cells #[if k = 0 then x1 else .int .i64 (b2 (L s) 0)] 3 (0, 0)) ∧ wr.heap[p2]? = some (.cells #[if k ≤ 1 then x2 else .int .i64 (b2 (L s) 2)] 3 (0, 0)) ∧ But p1 p2 w wr) (fun _ i _ => 2 - (intOf i).toNat)
  case atStart => exact ⟨0, s, by omega, rfl, rfl, rfl, HB1.out, HB2.out, But.refl _ _ _⟩
  case round =>
    obtain ⟨k, t, hk, rfl, rfl, hL, hr1, hr2, hbut⟩ := hrel
    have ht : t.size = s.size - 2 * k := by rw [size_L, hL, List.length_drop, ← size_L]
    have HL := Lib.hid hL
    have HR1 := Lib.hid hr1
    have HR2 := Lib.hid hr2
    have HBU := Lib.hid hbut
    have hsz := hbut.size
    have hc0 := (hbut.cell (i := 0) hqb hne1 hne2).trans HQ0.out
    have hc1 := (hbut.cell (i := 1) hqb hne1 hne2).trans HQ1.out
    clear hL hr1 hr2 hbut
    have hk3 : k = 0 ∨ k = 1 ∨ k = 2 := by omega
    rcases hk3 with rfl | rfl | rfl
    · have hts : 2 ≤ t.size := by omega
      clear ht
      have hb : wr.heap[p1]? = some (.cells #[x1] 3 (0, 0)) := HR1.out
      have hco : wr.cell? ⟨p1, 0, none⟩ = some x1 := cells_of hb 0
      have hfo := free_of hb 0
      have hpl := lt_of_block hb
      have HB := Lib.hid hb
      obtain ⟨C, cap, m, hrun, hC⟩ := bytes_of (t.extract 0 2) (wr.setCell ⟨p1, 0, none⟩ (.int .i64 0))
      have hsz2 : (t.extract 0 2).size = 2 := by rw [ByteArray.size_extract]; omega
      have hC0 := fun V hV => hC V 0 hV (by omega)
      have hbv0 := b1_lt (L (t.extract 0 2)) 0
      have HV0 := Lib.hid (b1_extract t 0 2 0 (by omega))
      obtain ⟨c0, hc0'⟩ : ∃ c : Int, c = (b1 (L (t.extract 0 2)) 0 : Int) := ⟨_, rfl⟩
      rw [← hc0'] at hC0
      have hl0 : 0 ≤ c0 := by omega
      have hu0 : c0 < 256 := by omega
      have HC0 := Lib.hid hc0'
      have hC1 := fun V hV => hC V 1 hV (by omega)
      have hbv1 := b1_lt (L (t.extract 0 2)) 1
      have HV1 := Lib.hid (b1_extract t 0 2 1 (by omega))
      obtain ⟨c1, hc1'⟩ : ∃ c : Int, c = (b1 (L (t.extract 0 2)) 1 : Int) := ⟨_, rfl⟩
      rw [← hc1'] at hC1
      have hl1 : 0 ≤ c1 := by omega
      have hu1 : c1 < 256 := by omega
      have HC1 := Lib.hid hc1'
      rw [hsz2] at hrun
      rw [show (wr.setCell ⟨p1, 0, none⟩ (.int .i64 0)).heap.size = wr.heap.size by simp [World.setCell]] at hrun hC0 hC1
      have hz := or_zero c0 ⟨hl0, hu0⟩
      have hz1 := or_int c0 c1 ⟨hl0, by omega⟩ ⟨hl1, hu1⟩
      have HZ := Lib.hid hz1
      have hx0 := hC0 (wr.setCell ⟨p1, 0, none⟩ (.int .i64 0)) (by simp [World.setCell])
      have hx1 := hC1 ((wr.setCell ⟨p1, 0, none⟩ (.int .i64 0)).setCell ⟨p1, 0, none⟩ (.int .i64 c0)) (by simp [World.setCell])
      clear hC hsz2 hb hC0 hC1 hc0' hc1' hbv0 hbv1
      go_wp2
      refine wp_loop_rounds 3 ?_
      rw [rounds_succ]
      go_wp2
      rw [rounds_succ]
      go_wp2
      rw [rounds_succ]
      go_wp2
      go_roundw
      case rel =>
        have e := heap_set_one (u := .int .i64 (256 * c0 + c1)) (heap_set_one (u := .int .i64 c0) (heap_set_one (u := .int .i64 0) HB.out))
        have hv : 256 * c0 + c1 = b2 (L s) 0 := by
          rw [HC0.out, HC1.out, HV0.out, HV1.out, HL.out, b1_drop, b1_drop]
          rfl
        have f := fun (p : Nat) (o : Obj) (hp : p ≠ p1) (ho : wr.heap[p]? = some o) => heap_alloc_lt (o := .cells C 5 m) (heap_set_ne (a := ⟨p1, 0, none⟩) (u := .int .i64 (256 * c0 + c1)) hp (heap_set_ne (a := ⟨p1, 0, none⟩) (u := .int .i64 c0) hp (heap_set_ne (a := ⟨p1, 0, none⟩) (u := .int .i64 0) hp ho)))
        refine ⟨1, t.extract 2 t.size, by omega, rfl, rfl, by rw [L_from, HL.out, List.drop_drop], ?_, ?_, ?_⟩
        · rw [if_neg (by omega), ← hv]; exact heap_alloc_lt e
        · exact f p2 _ hne.symm HR2.out
        · exact (((((HBU.out).set p1 (by simp)).set p1 (by simp)).set p1 (by simp)).alloc _).drew
      case measure => simp [intOf]
    · have hts : 2 ≤ t.size := by omega
      clear ht
      have hb : wr.heap[p2]? = some (.cells #[x2] 3 (0, 0)) := HR2.out
      have hco : wr.cell? ⟨p2, 0, none⟩ = some x2 := cells_of hb 0
      have hfo := free_of hb 0
      have hpl := lt_of_block hb
      have HB := Lib.hid hb
      obtain ⟨C, cap, m, hrun, hC⟩ := bytes_of (t.extract 0 2) (wr.setCell ⟨p2, 0, none⟩ (.int .i64 0))
      have hsz2 : (t.extract 0 2).size = 2 := by rw [ByteArray.size_extract]; omega
      have hC0 := fun V hV => hC V 0 hV (by omega)
      have hbv0 := b1_lt (L (t.extract 0 2)) 0
      have HV0 := Lib.hid (b1_extract t 0 2 0 (by omega))
      obtain ⟨c0, hc0'⟩ : ∃ c : Int, c = (b1 (L (t.extract 0 2)) 0 : Int) := ⟨_, rfl⟩
      rw [← hc0'] at hC0
      have hl0 : 0 ≤ c0 := by omega
      have hu0 : c0 < 256 := by omega
      have HC0 := Lib.hid hc0'
      have hC1 := fun V hV => hC V 1 hV (by omega)
      have hbv1 := b1_lt (L (t.extract 0 2)) 1
      have HV1 := Lib.hid (b1_extract t 0 2 1 (by omega))
      obtain ⟨c1, hc1'⟩ : ∃ c : Int, c = (b1 (L (t.extract 0 2)) 1 : Int) := ⟨_, rfl⟩
      rw [← hc1'] at hC1
      have hl1 : 0 ≤ c1 := by omega
      have hu1 : c1 < 256 := by omega
      have HC1 := Lib.hid hc1'
      rw [hsz2] at hrun
      rw [show (wr.setCell ⟨p2, 0, none⟩ (.int .i64 0)).heap.size = wr.heap.size by simp [World.setCell]] at hrun hC0 hC1
      have hz := or_zero c0 ⟨hl0, hu0⟩
      have hz1 := or_int c0 c1 ⟨hl0, by omega⟩ ⟨hl1, hu1⟩
      have HZ := Lib.hid hz1
      have hx0 := hC0 (wr.setCell ⟨p2, 0, none⟩ (.int .i64 0)) (by simp [World.setCell])
      have hx1 := hC1 ((wr.setCell ⟨p2, 0, none⟩ (.int .i64 0)).setCell ⟨p2, 0, none⟩ (.int .i64 c0)) (by simp [World.setCell])
      clear hC hsz2 hb hC0 hC1 hc0' hc1' hbv0 hbv1
      go_wp2
      refine wp_loop_rounds 3 ?_
      rw [rounds_succ]
      go_wp2
      rw [rounds_succ]
      go_wp2
      rw [rounds_succ]
      go_wp2
      go_roundw
      case rel =>
        have e := heap_set_one (u := .int .i64 (256 * c0 + c1)) (heap_set_one (u := .int .i64 c0) (heap_set_one (u := .int .i64 0) HB.out))
        have hv : 256 * c0 + c1 = b2 (L s) 2 := by
          rw [HC0.out, HC1.out, HV0.out, HV1.out, HL.out, b1_drop, b1_drop]
          rfl
        have f := fun (p : Nat) (o : Obj) (hp : p ≠ p2) (ho : wr.heap[p]? = some o) => heap_alloc_lt (o := .cells C 5 m) (heap_set_ne (a := ⟨p2, 0, none⟩) (u := .int .i64 (256 * c0 + c1)) hp (heap_set_ne (a := ⟨p2, 0, none⟩) (u := .int .i64 c0) hp (heap_set_ne (a := ⟨p2, 0, none⟩) (u := .int .i64 0) hp ho)))
        refine ⟨2, t.extract 2 t.size, by omega, rfl, rfl, by rw [L_from, HL.out, List.drop_drop], ?_, ?_, ?_⟩
        · exact f p1 _ hne HR1.out
        · rw [if_neg (by omega), ← hv]; exact heap_alloc_lt e
        · exact (((((HBU.out).set p2 (by simp)).set p2 (by simp)).set p2 (by simp)).alloc _).drew
      case measure => simp [intOf]
    · simp only [Nat.reduceMul] at ht
      have hs4 : t.size = s.size - 4 := ht
      clear ht
      go_wp2
      go_ret2
      exact ⟨t, rfl, HL.out, HR1.out, HR2.out, HBU.out⟩
end Go.Proofs.YtjdaaecbnhcoaaaDoor
