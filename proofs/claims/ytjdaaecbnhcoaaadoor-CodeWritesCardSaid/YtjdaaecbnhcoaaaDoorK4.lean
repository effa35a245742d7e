/-
  WALKS of a switch that is read.
-/
import Derived.Test.YtjdaaecbnhcoaaaDoorAp
set_option linter.unusedVariables false
set_option linter.unusedSimpArgs false
namespace Go.Proofs.YtjdaaecbnhcoaaaDoor
open Go.RowKit

def keysS (l : List UInt8) (k : Nat) : List Int := (List.range k).map fun i => b2 l (4 + 4 * i)
def tosS (pc : Nat) (l : List UInt8) (k : Nat) : List Int := ((pc : Int) + s16 (b2 l 0)) :: (List.range k).map fun i => (pc : Int) + s16 (b2 l (6 + 4 * i))
theorem keysS_succ (l : List UInt8) (k : Nat) : keysS l (k + 1) = keysS l k ++ [b2 l (4 + 4 * k)] := by simp [keysS, List.range_succ]
theorem tosS_succ (pc : Nat) (l : List UInt8) (k : Nat) : tosS pc l (k + 1) = tosS pc l k ++ [(pc : Int) + s16 (b2 l (6 + 4 * k))] := by simp [tosS, List.range_succ]
theorem keysS_len (l : List UInt8) (k : Nat) : (keysS l k).length = k := by simp [keysS]
theorem tosS_len (pc : Nat) (l : List UInt8) (k : Nat) : (tosS pc l k).length = k + 1 := by simp [tosS]
/-- How many keys. -/
def cntS (l : List UInt8) : Nat := (b2 l 2).toNat
def slLen : Value → Nat | .slice _ n _ => n | _ => 0
theorem two_ptrs (w : World) (a b : Value) : (w.alloc (.cells #[a, b] 67)).cell? ⟨w.heap.size, 0, none⟩ = some a ∧ (w.alloc (.cells #[a, b] 67)).cell? ⟨w.heap.size, 1, none⟩ = some b :=
  ⟨cells_of (heap_new w _) 0, cells_of (heap_new w _) 1⟩
theorem info3 : ∃ i, Tryd.prog.info? 3 = some i ∧ i.zero = some (.int .i64 0) ∧ i.size = 1 ∧ i.bytes = 8 := info_parts (by kernel_rfl)
theorem size_alloc (w : World) (o : Obj) : (w.alloc o).heap.size = w.heap.size + 1 := by simp
theorem new_at (w : World) (cs : List Value) (t : TypeId) (b : Nat) (h : w.heap.size = b) : ∀ j u, cs[j]? = some u → (w.alloc (.cells cs.toArray t)).cell? (({ block := b, off := 0 } : Addr).add j) = some u := by
  subst h
  exact new_cells w cs t
theorem heap_new_at (w : World) (o : Obj) (b : Nat) (h : w.heap.size = b) : (w.alloc o).heap[b]? = some o := by
  subst h
  exact heap_new w o
theorem grown_keep {w w' : World} {base k : Nat} {e : TypeId} {size n : Nat} {v : Value} {xs : List Value} {o : Obj} (h : w.ownsRow base e size v n xs) (hg : w.grownBy w' v.ownBlock) (hk : k < base) (ho : w.heap[k]? = some o) : w'.heap[k]? = some o :=
  (hg.block k (lt_of_block ho) (fun e => by have := own_block_ge h k e.symm; omega)).trans ho
theorem own_not {w : World} {base k : Nat} {e : TypeId} {size n : Nat} {v : Value} {xs : List Value} (h : w.ownsRow base e size v n xs) (hk : k < base) : v.ownBlock ≠ some k := fun e => by
  have := own_block_ge h k e
  omega
set_option maxRecDepth 1000000 in
set_option maxHeartbeats 3200000 in
theorem readSwitch_short (s : ByteArray) (pc : Nat) (w : World) (hpc : pc ≤ 1000000) (h : s.size < 4) :
    Calls Tryd.prog 43 #[.string s, .int .i64 pc] w fun e w' => ∃ a4 n4 c4 a5 n5 c5, e = .returned (.tuple #[.slice a4 n4 c4, .slice a5 n5 c5, .string ⟨#[]⟩, .bool false]) ∧ Below w.heap.size w w' := by
  obtain ⟨i0, hi, hz0, hz1, hz2⟩ := info3
  have HR := fun W q => Lib.hid (read22_no s q W h)
  have HT := fun W => Lib.hid (target_any pc 0 W (by omega) (by omega))
  have B0 := Lib.hid ((((((Below.refl w.heap.size w).alloc (Nat.le_refl _) (.cells #[.int .i64 0] 3)).alloc (by simp) (.cells #[.int .i64 0] 3)).alloc (by simp; omega) (.cells #[.int .i64 0] 3)).alloc (by simp; omega) (.cells #[.pointer (some ⟨w.heap.size, 0, none⟩), .pointer (some ⟨w.heap.size + 1, 0, none⟩)] 67)).alloc (by simp; omega) (.cells #[.int .i64 (pc + s16 0)] 3))
  go_enter Tryd.func43, Tryd.ntmps43
  go_wp2_with fail
  refine (HR _ _).out.mono ?_
  rintro e w1 ⟨rfl, rfl⟩
  go_wp2_with fail
  refine (HT _).out.mono ?_
  rintro e w1 ⟨rfl, rfl⟩
  go_wp2_with (at_builtin; refine wpList_append_own2 rfl (.tmp 17) (.tmp 21) 41 rfl (w.heap.size + 5) 3 i0 (.int .i64 0) 1 8 Tryd.underlying41 hi hz0 hz1 hz2 rfl (by decide) _ _ _ rfl (World.ownsRow_nil _ _ _ _) ⟨_, 0, none⟩ 1 1 [.int .i64 (pc + s16 0)] rfl rfl ?qa ?qb ?qc ?qd ?qe ?_)
  case qa => exact new_at _ [.int .i64 (pc + s16 0)] 3 _ (by simp)
  case qb => exact int_cells .i64 [(pc : Int) + s16 0]
  case qc => unfold maxLen; omega
  case qd => omega
  case qe => simp
  intro v5 w5 own5 hg5 _
  have B5 := Lib.hid (B0.out.grown hg5 (by simp; omega) (fun k hk => by cases hk))
  obtain ⟨a5, c5, rfl⟩ := own_form own5
  clear own5 hg5
  go_wp2
  refine wp_loop_rounds 1 ?_
  rw [rounds_succ]
  go_wp2
  exact bodyPost_ret (v := .tuple #[.slice none 0 0, .slice a5 1 c5, .string ⟨#[]⟩, .bool false]) (by simp [results, Tryd.results43, go_sem]) rfl ⟨_, _, _, _, _, _, rfl, B5.out⟩
/-- What stands at the head of the loop: it still reads, or the bytes were too few. -/
def Sw (w : World) (s : ByteArray) (pc n base : Nat) (u4 u5 u6 u7 : Value) (wr : World) : Prop :=
  (∃ (i : Nat) (t : ByteArray), i ≤ n ∧ 4 + 4 * i ≤ s.size ∧ u6 = .string t ∧ u7 = .bool true ∧ L t = (L s).drop (4 + 4 * i) ∧ wr.ownsRow base 3 1 u4 i (icells (keysS (L s) i)) ∧ wr.ownsRow base 3 1 u5 (i + 1) (icells (tosS pc (L s) i)) ∧ Sep u4 u5 ∧
    (∃ x : Int, (0 ≤ x ∧ x < 65536) ∧ wr.heap[w.heap.size]? = some (.cells #[.int .i64 x] 3 (0, 0))) ∧ wr.heap[w.heap.size + 1]? = some (.cells #[.int .i64 n] 3 (0, 0)) ∧ (∃ x, wr.heap[w.heap.size + 1 + 1]? = some (.cells #[.int .i64 x] 3 (0, 0))) ∧ base ≤ wr.heap.size ∧ Below w.heap.size w wr) ∨
  (∃ a4 n4 c4 a5 n5 c5, u4 = .slice a4 n4 c4 ∧ u5 = .slice a5 n5 c5 ∧ u6 = .string ⟨#[]⟩ ∧ u7 = .bool false ∧ s.size < 4 + 4 * n ∧ Below w.heap.size w wr)
/-- What is answered. -/
def SwE (w : World) (s : ByteArray) (pc n : Nat) (e : Ending) (w' : World) : Prop :=
  (∃ kv tv t, e = .returned (.tuple #[kv, tv, .string t, .bool true]) ∧ 4 + 4 * n ≤ s.size ∧ L t = (L s).drop (4 + 4 * n) ∧ IOwn w' w.heap.size kv (keysS (L s) n) ∧ IOwn w' w.heap.size tv (tosS pc (L s) n) ∧ Below w.heap.size w w') ∨
  (∃ a4 n4 c4 a5 n5 c5, e = .returned (.tuple #[.slice a4 n4 c4, .slice a5 n5 c5, .string ⟨#[]⟩, .bool false]) ∧ s.size < 4 + 4 * n ∧ Below w.heap.size w w')
theorem two_ptrs_at (w : World) (a b : Value) (q : Nat) (h : w.heap.size = q) : (w.alloc (.cells #[a, b] 67)).cell? ⟨q, 0, none⟩ = some a ∧ (w.alloc (.cells #[a, b] 67)).cell? ⟨q, 1, none⟩ = some b := by
  subst h
  exact two_ptrs w a b
set_option maxRecDepth 1000000 in
set_option maxHeartbeats 12800000 in
theorem readSwitch_long (s : ByteArray) (pc n : Nat) (w : World) (hpc : pc ≤ 1000000) (h : 4 ≤ s.size) (hm : s.size ≤ 1000000) (hn : b2 (L s) 2 = n) :
    Calls Tryd.prog 43 #[.string s, .int .i64 pc] w fun e w' => SwE w s pc n e w' := by
  obtain ⟨i0, hi, hz0, hz1, hz2⟩ := info3
  have hnb := b2_bd (L s) 2
  rw [hn] at hnb
  have hn6 : n < 65536 := by omega
  have hs16 := s16_bd (b2_bd (L s) 0)
  have HR := fun W q a b c d e' f g h1 h2 h3 h4 h5 => Lib.hid (read22_yes s q w.heap.size (w.heap.size + 1) a b W c d e' f g h1 h2 h3 h4 h5)
  have HT := fun W => Lib.hid (target_any pc (b2 (L s) 0) W (by omega) (b2_bd _ _))
  have B0 := Lib.hid (((((Below.refl w.heap.size w).alloc (Nat.le_refl _) (.cells #[.int .i64 0] 3)).alloc (by simp) (.cells #[.int .i64 0] 3)).alloc (by simp; omega) (.cells #[.int .i64 0] 3)).alloc (by simp; omega) (.cells #[.pointer (some ⟨w.heap.size, 0, none⟩), .pointer (some ⟨w.heap.size + 1, 0, none⟩)] 67))
  have J0 := Lib.hid (heap_alloc_lt (o := (.cells #[.pointer (some ⟨w.heap.size, 0, none⟩), .pointer (some ⟨w.heap.size + 1, 0, none⟩)] 67)) (heap_alloc_lt (o := (.cells #[.int .i64 0] 3)) (heap_alloc_lt (o := (.cells #[.int .i64 0] 3)) (heap_new w (.cells #[.int .i64 0] 3)))))
  have C0 := Lib.hid (heap_alloc_lt (o := (.cells #[.pointer (some ⟨w.heap.size, 0, none⟩), .pointer (some ⟨w.heap.size + 1, 0, none⟩)] 67)) (heap_alloc_lt (o := (.cells #[.int .i64 0] 3)) (heap_new_at (w.alloc (.cells #[.int .i64 0] 3)) (.cells #[.int .i64 0] 3) (w.heap.size + 1) (by simp))))
  have K0 := Lib.hid (heap_alloc_lt (o := (.cells #[.pointer (some ⟨w.heap.size, 0, none⟩), .pointer (some ⟨w.heap.size + 1, 0, none⟩)] 67)) (heap_new_at ((w.alloc (.cells #[.int .i64 0] 3)).alloc (.cells #[.int .i64 0] 3)) (.cells #[.int .i64 0] 3) (w.heap.size + 1 + 1) (by simp)))
  have HN := Lib.hid hn
  clear hn hnb
  go_enter Tryd.func43, Tryd.ntmps43
  go_wp2_with fail
  refine (HR _ (w.heap.size + 1 + 1 + 1) _ _ h (by omega) (two_ptrs_at _ _ _ _ (by simp)).1 (two_ptrs_at _ _ _ _ (by simp)).2 J0.out C0.out (by simp) (by omega) (by omega) (by omega)).out.mono ?_
  rintro e w1 ⟨t1, rfl, hL1, hj1, hc1, hbut⟩
  have hz1' := hbut.size
  simp only [size_alloc] at hz1'
  have K1 := Lib.hid (hbut.keep (by omega) (by omega) K0.out)
  have B1 := Lib.hid (B0.out.trans (hbut.below (by simp; omega) (by omega) (by omega)))
  have J1 := Lib.hid hj1
  have C1 := Lib.hid (show w1.heap[w.heap.size + 1]? = some (.cells #[.int .i64 n] 3 (0, 0)) by rw [hc1, HN.out])
  have HL1 := Lib.hid hL1
  have hcj : w1.cell? ⟨w.heap.size, 0, none⟩ = some (.int .i64 (b2 (L s) 0)) := cells_of hj1 0
  clear hbut hj1 hc1 hL1
  go_wp2_with fail
  refine (HT _).out.mono ?_
  rintro e w4 ⟨rfl, rfl⟩
  go_wp2_with (at_builtin; refine wpList_append_own2 rfl (.tmp 17) (.tmp 21) 41 rfl w1.heap.size 3 i0 (.int .i64 0) 1 8 Tryd.underlying41 hi hz0 hz1 hz2 rfl (by decide) _ _ _ rfl (World.ownsRow_nil _ _ _ _) ⟨_, 0, none⟩ 1 1 [.int .i64 (pc + s16 (b2 (L s) 0))] rfl rfl ?qa ?qb ?qc ?qd ?qe ?_)
  case qa => exact new_at _ [.int .i64 (pc + s16 (b2 (L s) 0))] 3 _ rfl
  case qb => exact int_cells .i64 [(pc : Int) + s16 (b2 (L s) 0)]
  case qc => unfold maxLen; omega
  case qd => omega
  case qe => simp
  intro v5 w5 own5 hg5 _
  have B5 := Lib.hid ((B1.out.alloc B1.out.size (.cells #[.int .i64 (pc + s16 (b2 (L s) 0))] 3)).grown hg5 (by simp; omega) (fun k hk => by cases hk))
  have k5 := fun (k : Nat) (o : Obj) (ho : w1.heap[k]? = some o) => (hg5.block k (by have := lt_of_block ho; simp; omega) (by simp [Value.ownBlock])).trans (heap_alloc_lt (o := .cells #[.int .i64 (pc + s16 (b2 (L s) 0))] 3) ho)
  have J5 := Lib.hid (k5 _ _ J1.out)
  have C5 := Lib.hid (k5 _ _ C1.out)
  have K5 := Lib.hid (k5 _ _ K1.out)
  have hz5 := hg5.size
  simp only [size_alloc] at hz5
  have O5 := Lib.hid (show IOwn w5 w1.heap.size v5 (tosS pc (L s) 0) from own5)
  obtain ⟨a5, c5, rfl⟩ := own_form own5
  clear own5 hg5 k5 hcj HR HT
  obtain ⟨base, hbase⟩ : ∃ b, b = w1.heap.size := ⟨_, rfl⟩
  rw [← hbase] at O5 hz5 hz1'
  clear hbase
  go_wp2
  go_loopw [4, 5, 6, 7] (fun u4 u5 u6 u7 wr => Sw w s pc n base u4 u5 u6 u7 wr) (fun u4 _ _ _ _ => n + 1 - slLen u4)
  case atStart => exact .inl ⟨0, t1, by omega, by omega, rfl, rfl, HL1.out, World.ownsRow_nil _ _ _ _, O5.out, Sep.nil _, ⟨_, b2_bd _ _, J5.out⟩, C5.out, ⟨_, K5.out⟩, by omega, B5.out⟩
  case round =>
    clear B5 J5 C5 K5 O5 B1 J1 C1 K1 HL1 B0 J0 C0 K0
    rcases hrel with ⟨i, t, hin, his, rfl, rfl, hL, hok, hot, hsep, ⟨xj, hxj, hj⟩, hc, ⟨xk, hk⟩, hbs, hb⟩ | ⟨a4, n4, c4, a5, n5, c5, rfl, rfl, rfl, rfl, hsh, hb⟩
    · have HL := Lib.hid hL
      have OK := Lib.hid hok
      have OT := Lib.hid hot
      have SEP := Lib.hid hsep
      have HJ := Lib.hid hj
      have HC := Lib.hid hc
      have HK := Lib.hid hk
      have BE := Lib.hid hb
      have hbz := hb.size
      have hts : t.size = s.size - (4 + 4 * i) := by rw [size_L, hL, List.length_drop, ← size_L]
      have hts2 : s.size ≤ t.size + (4 + 4 * i) := by omega
      have hts3 : t.size ≤ s.size := by omega
      have hts4 : t.size + (4 + 4 * i) ≤ s.size := by omega
      clear hts
      obtain ⟨ak, ck, rfl⟩ := own_form hok
      obtain ⟨a_t, c_t, rfl⟩ := own_form hot
      have hcc : wr.cell? ⟨w.heap.size + 1, 0, none⟩ = some (.int .i64 n) := cells_of hc 0
      have hlc := lt_of_block hc
      clear hL hok hot hsep hj hc hk hb
      by_cases hlt : i < n
      · by_cases ht4 : 4 ≤ t.size
        · skip
          have HRD := fun W q a b c d e' f g h1 h2 h3 h4 h5 => Lib.hid (read22_yes t q (w.heap.size + 1 + 1) w.heap.size a b W c d e' f g h1 h2 h3 h4 h5)
          have hwz := (lt_of_block HK.out)
          go_wp2_with fail
          refine (HRD _ wr.heap.size _ _ ht4 (by omega) (two_ptrs_at wr _ _ _ rfl).1 (two_ptrs_at wr _ _ _ rfl).2 (heap_alloc_lt HK.out) (heap_alloc_lt HJ.out) (by simp) (by omega) (by omega) (by omega)).out.mono ?_
          rintro e w2 ⟨t2, rfl, hL2, hk2, hj2, hbut⟩
          have hz2' := hbut.size
          simp only [size_alloc] at hz2'
          have HK2 := Lib.hid hk2
          have HJ2 := Lib.hid hj2
          have HC2 := Lib.hid (hbut.keep (by omega) (by omega) (heap_alloc_lt (o := .cells #[.pointer (some ⟨w.heap.size + 1 + 1, 0, none⟩), .pointer (some ⟨w.heap.size, 0, none⟩)] 67) HC.out))
          have OK2 := Lib.hid (own_but (OK.out.alloc (.cells #[.pointer (some ⟨w.heap.size + 1 + 1, 0, none⟩), .pointer (some ⟨w.heap.size, 0, none⟩)] 67)) hbut (own_not OK.out (by omega)) (own_not OK.out (by omega)))
          have OT2 := Lib.hid (own_but (OT.out.alloc (.cells #[.pointer (some ⟨w.heap.size + 1 + 1, 0, none⟩), .pointer (some ⟨w.heap.size, 0, none⟩)] 67)) hbut (own_not OT.out (by omega)) (own_not OT.out (by omega)))
          have B2 := Lib.hid ((BE.out.alloc BE.out.size (.cells #[.pointer (some ⟨w.heap.size + 1 + 1, 0, none⟩), .pointer (some ⟨w.heap.size, 0, none⟩)] 67)).trans (hbut.below (by simp; omega) (by omega) (by omega)))
          have HL2 := Lib.hid hL2
          have hck : w2.cell? ⟨w.heap.size + 1 + 1, 0, none⟩ = some (.int .i64 (b2 (L t) 0)) := cells_of hk2 0
          have hkl := lt_of_block hk2
          clear hbut hL2 hk2 hj2
          go_wp2_with (at_builtin; refine wpList_append_own2 rfl (.tmp 36) (.tmp 38) 41 rfl base 3 i0 (.int .i64 0) 1 8 Tryd.underlying41 hi hz0 hz1 hz2 rfl (by decide) _ _ _ rfl (OK2.out.alloc _) ⟨_, 0, none⟩ 1 1 [.int .i64 (b2 (L t) 0)] rfl rfl ?ra ?rb ?rc ?rd ?re ?_)
          case ra => exact new_at _ [.int .i64 (b2 (L t) 0)] 3 _ rfl
          case rb => exact int_cells .i64 [b2 (L t) 0]
          case rc => unfold maxLen; omega
          case rd => omega
          case re => simp; omega
          intro v3 w3 own3 hg3 hm3
          have HK3 := Lib.hid (grown_keep (OK2.out.alloc _) hg3 (by omega) (heap_alloc_lt (o := .cells #[.int .i64 (b2 (L t) 0)] 3) HK2.out))
          have HJ3 := Lib.hid (grown_keep (OK2.out.alloc _) hg3 (by omega) (heap_alloc_lt (o := .cells #[.int .i64 (b2 (L t) 0)] 3) HJ2.out))
          have HC3 := Lib.hid (grown_keep (OK2.out.alloc _) hg3 (by omega) (heap_alloc_lt (o := .cells #[.int .i64 (b2 (L t) 0)] 3) HC2.out))
          have OK3 := Lib.hid own3
          have OT3 := Lib.hid (own_grown_other (OT2.out.alloc (.cells #[.int .i64 (b2 (L t) 0)] 3)) SEP.out hg3)
          have SEP3 := Lib.hid (SEP.out.moved hm3 (OT2.out.alloc (.cells #[.int .i64 (b2 (L t) 0)] 3)))
          have B3 := Lib.hid ((B2.out.alloc B2.out.size (.cells #[.int .i64 (b2 (L t) 0)] 3)).grown hg3 (by simp; omega) (fun k hk => by have := own_block_ge OK2.out k hk; omega))
          have hz3 := hg3.size
          simp only [size_alloc] at hz3
          obtain ⟨a3, c3, rfl⟩ := own_form own3
          have hcj : w3.cell? ⟨w.heap.size, 0, none⟩ = some (.int .i64 (b2 (L t) 2)) := cells_of HJ3.out 0
          have HT := fun W => Lib.hid (target_any pc (b2 (L t) 2) W (by omega) (b2_bd _ _))
          clear own3 hg3 hm3 hck
          go_wp2_with fail
          refine (HT _).out.mono ?_
          rintro e w4 ⟨rfl, rfl⟩
          go_wp2_with (at_builtin; refine wpList_append_own2 rfl (.tmp 40) (.tmp 44) 41 rfl base 3 i0 (.int .i64 0) 1 8 Tryd.underlying41 hi hz0 hz1 hz2 rfl (by decide) _ _ _ rfl (OT3.out.alloc _) ⟨_, 0, none⟩ 1 1 [.int .i64 (pc + s16 (b2 (L t) 2))] rfl rfl ?sa ?sb ?sc ?sd ?se ?_)
          case sa => exact new_at _ [.int .i64 (pc + s16 (b2 (L t) 2))] 3 _ rfl
          case sb => exact int_cells .i64 [(pc : Int) + s16 (b2 (L t) 2)]
          case sc => unfold maxLen; omega
          case sd => omega
          case se => simp; omega
          intro v4 w4 own4 hg4 hm4
          have HK4 := Lib.hid (grown_keep (OT3.out.alloc _) hg4 (by omega) (heap_alloc_lt (o := .cells #[.int .i64 (pc + s16 (b2 (L t) 2))] 3) HK3.out))
          have HJ4 := Lib.hid (grown_keep (OT3.out.alloc _) hg4 (by omega) (heap_alloc_lt (o := .cells #[.int .i64 (pc + s16 (b2 (L t) 2))] 3) HJ3.out))
          have HC4 := Lib.hid (grown_keep (OT3.out.alloc _) hg4 (by omega) (heap_alloc_lt (o := .cells #[.int .i64 (pc + s16 (b2 (L t) 2))] 3) HC3.out))
          have OT4 := Lib.hid own4
          have OK4 := Lib.hid (own_grown_other (OK3.out.alloc (.cells #[.int .i64 (pc + s16 (b2 (L t) 2))] 3)) SEP3.out.swap hg4)
          have SEP4 := Lib.hid ((SEP3.out.swap.moved hm4 (OK3.out.alloc (.cells #[.int .i64 (pc + s16 (b2 (L t) 2))] 3))).swap)
          have B4 := Lib.hid ((B3.out.alloc B3.out.size (.cells #[.int .i64 (pc + s16 (b2 (L t) 2))] 3)).grown hg4 (by simp; omega) (fun k hk => by have := own_block_ge OT3.out k hk; omega))
          have hz4 := hg4.size
          simp only [size_alloc] at hz4
          obtain ⟨a4, c4, rfl⟩ := own_form own4
          clear own4 hg4 hm4 hcj
          go_wp2
          go_roundw
          case rel =>
            refine .inl ⟨i + 1, t2, by omega, by omega, rfl, rfl, ?_, ?_, ?_, SEP4.out, ⟨_, b2_bd _ _, HJ4.out⟩, HC4.out, ⟨_, HK4.out⟩, by omega, B4.out⟩
            · rw [HL2.out, HL.out, List.drop_drop]; congr 1
            · rw [keysS_succ, icells_append]
              have e1 : b2 (L s) (4 + 4 * i) = b2 (L t) 0 := by rw [HL.out, b2_drop]; rfl
              rw [e1]
              exact OK4.out
            · rw [tosS_succ, icells_append]
              have e1 : b2 (L s) (6 + 4 * i) = b2 (L t) 2 := by rw [HL.out, b2_drop]; congr 1; omega
              rw [e1]
              exact OT4.out
          case measure => simp [slLen]; omega
        · have ht4' : t.size < 4 := by omega
          have hwz := (lt_of_block HK.out)
          have HRD := fun W q => Lib.hid (read22_no t q W ht4')
          go_wp2_with fail
          refine (HRD _ _).out.mono ?_
          rintro e w2 ⟨rfl, rfl⟩
          have HK2 := Lib.hid (heap_alloc_lt (o := (.cells #[.pointer (some ⟨w.heap.size + 1 + 1, 0, none⟩), .pointer (some ⟨w.heap.size, 0, none⟩)] 67)) HK.out)
          have HJ2 := Lib.hid (heap_alloc_lt (o := (.cells #[.pointer (some ⟨w.heap.size + 1 + 1, 0, none⟩), .pointer (some ⟨w.heap.size, 0, none⟩)] 67)) HJ.out)
          have HC2 := Lib.hid (heap_alloc_lt (o := (.cells #[.pointer (some ⟨w.heap.size + 1 + 1, 0, none⟩), .pointer (some ⟨w.heap.size, 0, none⟩)] 67)) HC.out)
          have OK2 := Lib.hid (OK.out.alloc (.cells #[.pointer (some ⟨w.heap.size + 1 + 1, 0, none⟩), .pointer (some ⟨w.heap.size, 0, none⟩)] 67))
          have OT2 := Lib.hid (OT.out.alloc (.cells #[.pointer (some ⟨w.heap.size + 1 + 1, 0, none⟩), .pointer (some ⟨w.heap.size, 0, none⟩)] 67))
          have B2 := Lib.hid (BE.out.alloc BE.out.size (.cells #[.pointer (some ⟨w.heap.size + 1 + 1, 0, none⟩), .pointer (some ⟨w.heap.size, 0, none⟩)] 67))
          have hck : (wr.alloc (.cells #[.pointer (some ⟨w.heap.size + 1 + 1, 0, none⟩), .pointer (some ⟨w.heap.size, 0, none⟩)] 67)).cell? ⟨w.heap.size + 1 + 1, 0, none⟩ = some (.int .i64 xk) := cells_of HK2.out 0
          go_wp2_with (at_builtin; refine wpList_append_own2 rfl (.tmp 36) (.tmp 38) 41 rfl base 3 i0 (.int .i64 0) 1 8 Tryd.underlying41 hi hz0 hz1 hz2 rfl (by decide) _ _ _ rfl (OK2.out.alloc _) ⟨_, 0, none⟩ 1 1 [.int .i64 xk] rfl rfl ?ua ?ub ?uc ?ud ?ue ?_)
          case ua => exact new_at _ [.int .i64 xk] 3 _ (by simp)
          case ub => exact int_cells .i64 [xk]
          case uc => unfold maxLen; omega
          case ud => omega
          case ue => simp; omega
          intro v3 w3 own3 hg3 hm3
          have HK3 := Lib.hid (grown_keep (OK2.out.alloc _) hg3 (by omega) (heap_alloc_lt (o := .cells #[.int .i64 xk] 3) HK2.out))
          have HJ3 := Lib.hid (grown_keep (OK2.out.alloc _) hg3 (by omega) (heap_alloc_lt (o := .cells #[.int .i64 xk] 3) HJ2.out))
          have HC3 := Lib.hid (grown_keep (OK2.out.alloc _) hg3 (by omega) (heap_alloc_lt (o := .cells #[.int .i64 xk] 3) HC2.out))
          have OK3 := Lib.hid own3
          have OT3 := Lib.hid (own_grown_other (OT2.out.alloc (.cells #[.int .i64 xk] 3)) SEP.out hg3)
          have SEP3 := Lib.hid (SEP.out.moved hm3 (OT2.out.alloc (.cells #[.int .i64 xk] 3)))
          have B3 := Lib.hid ((B2.out.alloc B2.out.size (.cells #[.int .i64 xk] 3)).grown hg3 (by simp; omega) (fun k hk => by have := own_block_ge OK2.out k hk; omega))
          have hz3 := hg3.size
          simp only [size_alloc] at hz3
          obtain ⟨a3, c3, rfl⟩ := own_form own3
          have hcj : w3.cell? ⟨w.heap.size, 0, none⟩ = some (.int .i64 xj) := cells_of HJ3.out 0
          have HT := fun W => Lib.hid (target_any pc xj W (by omega) hxj)
          clear own3 hg3 hm3 hck
          go_wp2_with fail
          refine (HT _).out.mono ?_
          rintro e w4 ⟨rfl, rfl⟩
          go_wp2_with (at_builtin; refine wpList_append_own2 rfl (.tmp 40) (.tmp 44) 41 rfl base 3 i0 (.int .i64 0) 1 8 Tryd.underlying41 hi hz0 hz1 hz2 rfl (by decide) _ _ _ rfl (OT3.out.alloc _) ⟨_, 0, none⟩ 1 1 [.int .i64 (pc + s16 xj)] rfl rfl ?va ?vb ?vc ?vd ?ve ?_)
          case va => exact new_at _ [.int .i64 (pc + s16 xj)] 3 _ rfl
          case vb => exact int_cells .i64 [(pc : Int) + s16 xj]
          case vc => unfold maxLen; omega
          case vd => omega
          case ve => simp; omega
          intro v4 w4 own4 hg4 hm4
          have HK4 := Lib.hid (grown_keep (OT3.out.alloc _) hg4 (by omega) (heap_alloc_lt (o := .cells #[.int .i64 (pc + s16 xj)] 3) HK3.out))
          have HJ4 := Lib.hid (grown_keep (OT3.out.alloc _) hg4 (by omega) (heap_alloc_lt (o := .cells #[.int .i64 (pc + s16 xj)] 3) HJ3.out))
          have HC4 := Lib.hid (grown_keep (OT3.out.alloc _) hg4 (by omega) (heap_alloc_lt (o := .cells #[.int .i64 (pc + s16 xj)] 3) HC3.out))
          have OT4 := Lib.hid own4
          have OK4 := Lib.hid (own_grown_other (OK3.out.alloc (.cells #[.int .i64 (pc + s16 xj)] 3)) SEP3.out.swap hg4)
          have SEP4 := Lib.hid ((SEP3.out.swap.moved hm4 (OK3.out.alloc (.cells #[.int .i64 (pc + s16 xj)] 3))).swap)
          have B4 := Lib.hid ((B3.out.alloc B3.out.size (.cells #[.int .i64 (pc + s16 xj)] 3)).grown hg4 (by simp; omega) (fun k hk => by have := own_block_ge OT3.out k hk; omega))
          have hz4 := hg4.size
          simp only [size_alloc] at hz4
          obtain ⟨a4, c4, rfl⟩ := own_form own4
          clear own4 hg4 hm4 hcj
          go_wp2
          go_roundw
          case rel =>
            exact .inr ⟨_, _, _, _, _, _, rfl, rfl, rfl, rfl, by omega, B4.out⟩
          case measure => simp [slLen]; omega
      · obtain rfl : i = n := by omega
        go_wp2
        exact bodyPost_ret (v := .tuple #[.slice ak i ck, .slice a_t (i + 1) c_t, .string t, .bool true]) (by simp [results, Tryd.results43, go_sem]) rfl (.inl ⟨_, _, t, rfl, by omega, HL.out, by unfold IOwn; rw [keysS_len]; exact own_mono OK.out (by omega), by unfold IOwn; rw [tosS_len]; exact own_mono OT.out (by omega), BE.out⟩)
    · have BE := Lib.hid hb
      clear hb
      go_wp2
      exact bodyPost_ret (v := .tuple #[.slice a4 n4 c4, .slice a5 n5 c5, .string ⟨#[]⟩, .bool false]) (by simp [results, Tryd.results43, go_sem]) rfl (.inr ⟨_, _, _, _, _, _, rfl, hsh, BE.out⟩)
end Go.Proofs.YtjdaaecbnhcoaaaDoor
