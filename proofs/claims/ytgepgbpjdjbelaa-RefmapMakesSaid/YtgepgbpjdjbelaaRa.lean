/-
  WALKS of what is small: how long, which kind, how many bytes, where a bit stands.
-/
import Derived.Test.YtgepgbpjdjbelaaRw
import Derived.Laws.BitsAllLaws
import Derived.Deep.QuietTactic
import Derived.Deep.CutBlock
set_option linter.unusedVariables false
set_option linter.unusedSimpArgs false
namespace Go.Proofs.Ytgepgbpjdjbelaa
open Go.RowKit

theorem Below.link' {a b c : World} (h : Below a.heap.size a b) (k : Below b.heap.size b c) : Below a.heap.size a c := h.trans (k.mono h.size)
theorem isLong_in (x y : Nat) (r : Bool) (hr : decide (64 < x ∨ 64 < y) = r) (w : World) (hx : (x : Int) ≤ 9223372036854775807) (hy : (y : Int) ≤ 9223372036854775807) :
    Calls Try.prog 22 #[.int .i64 (x : Int), .int .i64 (y : Int)] w fun e w' => e = .returned (.bool r) ∧ w' = w := by
  subst hr
  by_cases h1 : 64 < x
  · have e2 : decide (64 < x ∨ 64 < y) = true := decide_eq_true (.inl h1)
    rw [e2]
    have h1' : (64 : Int) < (x : Int) := by omega
    go_enter Try.func22, Try.ntmps22
    go_wp2
    go_ret
    exact ⟨rfl, rfl⟩
  · have h1' : ¬ (64 : Int) < (x : Int) := by omega
    by_cases h2 : 64 < y
    · have e2 : decide (64 < x ∨ 64 < y) = true := decide_eq_true (.inr h2)
      rw [e2]
      have h2' : (64 : Int) < (y : Int) := by omega
      go_enter Try.func22, Try.ntmps22
      go_wp2
      go_ret
      exact ⟨rfl, rfl⟩
    · have e2 : decide (64 < x ∨ 64 < y) = false := decide_eq_false (by omega)
      rw [e2]
      have h2' : ¬ (64 : Int) < (y : Int) := by omega
      have h3 : decide ((64 : Int) < (y : Int)) = false := decide_eq_false h2'
      go_enter Try.func22, Try.ntmps22
      go_wp2
      go_ret
      exact ⟨rfl, rfl⟩
theorem isLong_any (x y : Nat) (w : World) (hx : (x : Int) ≤ 9223372036854775807) (hy : (y : Int) ≤ 9223372036854775807) :
    Calls Try.prog 22 #[.int .i64 (x : Int), .int .i64 (y : Int)] w fun e w' => e = .returned (.bool (decide (64 < x ∨ 64 < y))) ∧ w' = w := isLong_in x y _ rfl w hx hy
set_option maxHeartbeats 1600000 in
theorem mask_any (n : Nat) (w : World) (hn : n ≤ 1000000) :
    Calls Try.prog 32 #[.int .i64 (n : Int)] w fun e w' => e = .returned (.int .u8 ((2 ^ (7 - n % 8) : Nat) : Int)) ∧ w' = w := by
  have h8 : n % 8 < 8 := Nat.mod_lt _ (by decide)
  have hm : ((n : Int) % 8) = ((n % 8 : Nat) : Int) := by omega
  obtain ⟨r, hr⟩ : ∃ r, n % 8 = r := ⟨_, rfl⟩
  rw [hr] at hm h8 ⊢
  have hq : Int.tmod (n : Int) 8 = (r : Int) := by rw [Int.tmod_eq_emod_of_nonneg (by omega)]; exact hm
  have hv : (128 : Int) / 2 ^ r = ((2 ^ (7 - r) : Nat) : Int) := by
    have : ∀ r : Fin 8, (128 : Int) / 2 ^ r.1 = ((2 ^ (7 - r.1) : Nat) : Int) := by decide
    exact this ⟨r, h8⟩
  have HV := Lib.hid hv
  clear hv
  go_enter Try.func32, Try.ntmps32
  go_wp2
  go_ret
  exact ⟨by rw [HV.out]; rfl, rfl⟩
set_option maxHeartbeats 1600000 in
theorem size_any (s1 s2 : Option Addr) (n1 n2 c1 c2 : Nat) (w : World) (h1 : n1 ≤ 1000000000000) (h2 : n2 ≤ 1000000000000) :
    Calls Try.prog 30 #[.agg #[.slice s1 n1 c1, .slice s2 n2 c2]] w fun e w' => e = .returned (.int .i64 ((szB (n1 + n2) : Nat) : Int)) ∧ Below w.heap.size w w' := by
  go_enter Try.func30, Try.ntmps30
  go_wp2
  go_ret
  exact ⟨by unfold szB; congr 2, (Below.refl _ _).alloc (Nat.le_refl _) _⟩
set_option maxHeartbeats 1600000 in
theorem bits_any (v1 v2 : Value) (w : World) :
    Calls Try.prog 31 #[.agg #[v1, v2]] w fun e w' => e = .returned (.func (.func 40) #[] #[.pointer (some ⟨w.heap.size, 0, none⟩)]) ∧ w' = w.alloc (.cells #[v1, v2] 27) := by
  go_enter Try.func31, Try.ntmps31
  go_wp2
  go_ret
  exact ⟨rfl, rfl⟩
set_option maxHeartbeats 1600000 in
theorem isRef_in (k n d : Int) (s : ByteArray) (r : Bool) (hr : decide (2 ≤ k ∧ k ≤ 5) = r) (w : World) :
    Calls Try.prog 28 #[.agg #[.int .i64 k, .int .i64 d, .string s, .int .i64 n]] w fun e w' => e = .returned (.bool r) ∧ Below w.heap.size w w' := by
  subst hr
  by_cases h2 : k = 2
  · subst h2
    go_enter Try.func28, Try.ntmps28
    go_wp2
    go_ret
    exact ⟨rfl, (Below.refl _ _).alloc (Nat.le_refl _) _⟩
  by_cases h3 : k = 3
  · subst h3
    go_enter Try.func28, Try.ntmps28
    go_wp2
    go_ret
    exact ⟨rfl, (Below.refl _ _).alloc (Nat.le_refl _) _⟩
  by_cases h4 : k = 4
  · subst h4
    go_enter Try.func28, Try.ntmps28
    go_wp2
    go_ret
    exact ⟨rfl, (Below.refl _ _).alloc (Nat.le_refl _) _⟩
  by_cases h5 : k = 5
  · subst h5
    go_enter Try.func28, Try.ntmps28
    go_wp2
    go_ret
    exact ⟨rfl, (Below.refl _ _).alloc (Nat.le_refl _) _⟩
  have e : decide (2 ≤ k ∧ k ≤ 5) = false := decide_eq_false (by omega)
  rw [e]
  have g2 : (k == 2) = false := by simpa using h2
  have g3 : (k == 3) = false := by simpa using h3
  have g4 : (k == 4) = false := by simpa using h4
  have g5 : (k == 5) = false := by simpa using h5
  clear e h2 h3 h4 h5
  go_enter Try.func28, Try.ntmps28
  go_wp2
  go_ret
  exact ⟨rfl, (Below.refl _ _).alloc (Nat.le_refl _) _⟩
/-- The world w, some draws later. -/
def Drawn (w wr : World) : Prop := ∃ n, wr = w.drewN n
theorem below_drewN {B : Nat} {a w : World} (h : Below B a w) (n : Nat) : Below B a (w.drewN n) := ⟨h.os, h.tape, h.output, h.size, h.block⟩
theorem Drawn.refl (w : World) : Drawn w w := ⟨0, rfl⟩
theorem Drawn.step {w wr : World} (h : Drawn w wr) (n : Nat) : Drawn w (wr.drewN n) := by
  obtain ⟨m, rfl⟩ := h
  exact ⟨m + n, by rw [World.drewN_drewN]⟩
theorem Drawn.below {w wr : World} (h : Drawn w wr) : Below w.heap.size w wr := by
  obtain ⟨m, rfl⟩ := h
  exact below_drewN (Below.refl _ _) m
theorem BRow.drewN {B : Nat} {w : World} {v : Value} {l : List Bool} (h : BRow B w v l) (n : Nat) : BRow B (w.drewN n) v l := Row.keep h fun _ _ => rfl
theorem MRow.drewN {B : Nat} {w : World} {v : Value} {l : List MP} (h : MRow B w v l) (n : Nat) : MRow B (w.drewN n) v l := h.keep fun _ _ => rfl
theorem Drawn.brow {B : Nat} {w wr : World} {v : Value} {l : List Bool} (h : Drawn w wr) (hr : BRow B w v l) : BRow B wr v l := by
  obtain ⟨m, rfl⟩ := h
  exact hr.drewN m
theorem Drawn.mrow {B : Nat} {w wr : World} {v : Value} {l : List MP} (h : Drawn w wr) (hr : MRow B w v l) : MRow B wr v l := by
  obtain ⟨m, rfl⟩ := h
  exact hr.drewN m
theorem take_ext {α : Type} {a b : List α} {k : Nat} {x : α} (h : a.take k = b.take k) (ha : a[k]? = some x) (hb : b[k]? = some x) : a.take (k + 1) = b.take (k + 1) := by
  rw [List.take_add_one, List.take_add_one, h, ha, hb]
set_option maxRecDepth 1000000 in
set_option maxHeartbeats 3200000 in
theorem sameBits_any (B : Nat) (a b : List Bool) (va vb : Value) (w : World) (ha : BRow B w va a) (hb : BRow B w vb b) (hB : B ≤ w.heap.size) :
    Calls Try.prog 19 #[va, vb] w fun e w' => e = .returned (.bool (decide (a = b))) ∧ Drawn w w' := by
  obtain ⟨Aa, ca, rfl, hca, hma⟩ := ha.form
  obtain ⟨Ab, cb, rfl, hcb, hmb⟩ := hb.form
  unfold maxLen at hma hmb
  have HA := Lib.hid ha
  have HB := Lib.hid hb
  clear ha hb
  by_cases hl : a.length = b.length
  · obtain ⟨n, hn⟩ : ∃ n, a.length = n := ⟨_, rfl⟩
    rw [hn] at hl hca hma HA
    rw [← hl] at hcb hmb HB ⊢
    rw [hn]
    have HLA := Lib.hid hn
    have HLB := Lib.hid hl.symm
    clear hn hl
    go_enter Try.func19, Try.ntmps19
    go_wp2
    go_loopw [5] (fun i wr => ∃ k : Nat, k ≤ n ∧ i = .int .i64 k ∧ a.take k = b.take k ∧ Drawn w wr) (fun i _ => n - (intOf i).toNat)
    case atStart => exact ⟨0, Nat.zero_le _, rfl, rfl, Drawn.refl _⟩
    case round =>
      obtain ⟨k, hk, rfl, hpre, hd⟩ := hrel
      have HD := Lib.hid hd
      have hsz := hd.below.size
      clear hd
      have HP := Lib.hid hpre
      clear hpre
      by_cases hlt : k < n
      · have hx := List.getElem?_eq_getElem (show k < a.length by rw [HLA.out]; exact hlt)
        have hy := List.getElem?_eq_getElem (show k < b.length by rw [HLB.out]; exact hlt)
        generalize a[k]'_ = x at hx
        generalize b[k]'_ = y at hy
        obtain ⟨ba, oa, rfl, hba, cx⟩ := (HD.out.brow HA.out).at_ hx
        obtain ⟨bb, ob, rfl, hbb, cy⟩ := (HD.out.brow HB.out).at_ hy
        have HX := Lib.hid hx
        have HY := Lib.hid hy
        have hbaw : ba < wr.heap.size := by omega
        have hbbw : bb < wr.heap.size := by omega
        clear hx hy
        by_cases he : x = y
        · have e1 : (x == y) = true := by simpa using he
          have e2 : (x != y) = false := by simpa using he
          have HE := Lib.hid he
          clear he
          go_wp2
          go_quiet (fail)
          go_wp2
          go_roundw
          case rel => exact ⟨k + 1, by omega, by go_num, take_ext HP.out HX.out (by rw [HE.out]; exact HY.out), HD.out.step _⟩
          case measure => simp [intOf]; omega
        · have e1 : (x == y) = false := by simpa using he
          have e2 : (x != y) = true := by simpa using he
          have HE := Lib.hid he
          clear he
          go_wp2
          go_quiet (fail)
          go_wp2
          go_ret
          refine ⟨ret_b (decide_eq_false fun e => HE.out ?_).symm, HD.out.step _⟩
          have := HX.out
          rw [e, HY.out] at this
          cases this
          rfl
      · have hkn : k = n := by omega
        have HKN := Lib.hid hkn
        clear hkn
        go_wp2
        go_ret
        refine ⟨ret_b (decide_eq_true ?_).symm, HD.out⟩
        have := HP.out
        rwa [HKN.out, List.take_of_length_le (by rw [HLA.out]; exact Nat.le_refl _), List.take_of_length_le (by rw [HLB.out]; exact Nat.le_refl _)] at this
  · have hd : decide (a = b) = false := decide_eq_false fun e => hl (by rw [e])
    rw [hd]
    have e1 : ((a.length : Int) == (b.length : Int)) = false := by simp; omega
    have e2 : ((a.length : Int) != (b.length : Int)) = true := by simp; omega
    clear hl hd
    go_enter Try.func19, Try.ntmps19
    go_wp2
    go_ret
    exact ⟨rfl, Drawn.refl _⟩

def pickN (c : Int) (n : Nat) : Nat := (if c < 0 then -(c + 1) else c).toNat % n
theorem pickN_lt (c : Int) {n : Nat} (h : 0 < n) : pickN c n < n := Nat.mod_lt _ h
set_option maxRecDepth 1000000 in
set_option maxHeartbeats 1600000 in
theorem pick_any (c : Int) (n : Nat) (w : World) (hc : -9223372036854775808 ≤ c ∧ c ≤ 9223372036854775807) (h0 : 0 < n) (hn : (n : Int) ≤ 9223372036854775807) :
    Calls Try.prog 16 #[.int .i64 c, .int .i64 (n : Int)] w fun e w' => e = .returned (.int .i64 (pickN c n : Int)) ∧ w' = w := by
  have hz : ((n : Int) == 0) = false := by rw [beq_eq_false_iff_ne]; omega
  have hz' : ¬ (n : Int) = 0 := by omega
  by_cases h : c < 0
  · have e1 : pickN c n = (-(c + 1)).toNat % n := by unfold pickN; rw [if_pos h]
    rw [e1]
    have k1 : IntKind.i64.wrap (c + 1) = c + 1 := IntWalk.i64_in _ (by omega)
    have k2 : IntKind.i64.wrap (-(c + 1)) = -(c + 1) := IntWalk.i64_in _ (by omega)
    obtain ⟨m, hm⟩ : ∃ m : Nat, -(c + 1) = m := ⟨(-(c + 1)).toNat, by omega⟩
    rw [hm] at k2 ⊢
    rw [Int.toNat_natCast]
    have hm3 : (m : Int) ≤ 9223372036854775807 := by omega
    have hlt : m % n < n := Nat.mod_lt _ h0
    have k3 : IntKind.i64.wrap ((m : Int).tmod n) = ((m % n : Nat) : Int) := by
      rw [Int.tmod_eq_emod_of_nonneg (by omega), ← Int.natCast_emod, IntWalk.i64_in _ (by omega)]
    go_enter Try.func16, Try.ntmps16
    go_wp2
    go_ret
    exact ⟨by show Ending.returned (.int .i64 ((m : Int) % n)) = _; rw [Int.natCast_emod], rfl⟩
  · have e1 : pickN c n = c.toNat % n := by unfold pickN; rw [if_neg h]
    rw [e1]
    obtain ⟨m, rfl⟩ : ∃ m : Nat, c = m := ⟨c.toNat, by omega⟩
    rw [Int.toNat_natCast]
    have hlt : m % n < n := Nat.mod_lt _ h0
    have k3 : IntKind.i64.wrap ((m : Int).tmod n) = ((m % n : Nat) : Int) := by
      rw [Int.tmod_eq_emod_of_nonneg (by omega), ← Int.natCast_emod, IntWalk.i64_in _ (by omega)]
    have h9 : ¬ (m : Int) < 0 := h
    go_enter Try.func16, Try.ntmps16
    go_wp2
    go_ret
    exact ⟨rfl, rfl⟩
set_option maxRecDepth 1000000 in
set_option maxHeartbeats 1600000 in
/-- .. where the number of things is above all numbers by one. -/
theorem pick_top (c : Int) (w : World) (hc : -9223372036854775808 ≤ c ∧ c ≤ 9223372036854775807) :
    Calls Try.prog 16 #[.int .i64 c, .int .i64 (-9223372036854775808)] w fun e w' => e = .returned (.int .i64 (pickN c 9223372036854775808 : Int)) ∧ w' = w := by
  by_cases h : c < 0
  · have e1 : pickN c 9223372036854775808 = (-(c + 1)).toNat := by unfold pickN; rw [if_pos h, Nat.mod_eq_of_lt (by omega)]
    rw [e1]
    have k1 : IntKind.i64.wrap (c + 1) = c + 1 := IntWalk.i64_in _ (by omega)
    have k2 : IntKind.i64.wrap (-(c + 1)) = -(c + 1) := IntWalk.i64_in _ (by omega)
    obtain ⟨m, hm⟩ : ∃ m : Nat, -(c + 1) = m := ⟨(-(c + 1)).toNat, by omega⟩
    rw [hm] at k2 ⊢
    rw [Int.toNat_natCast]
    have hm3 : (m : Int) ≤ 9223372036854775807 := by omega
    have k3 : (m : Int).tmod (-9223372036854775808) = (m : Int) := by
      rw [Int.tmod_neg, Int.tmod_eq_emod_of_nonneg (by omega), Int.emod_eq_of_lt (by omega) (by omega)]
    go_enter Try.func16, Try.ntmps16
    go_wp2
    go_ret
    exact ⟨rfl, rfl⟩
  · have e1 : pickN c 9223372036854775808 = c.toNat := by unfold pickN; rw [if_neg h, Nat.mod_eq_of_lt (by omega)]
    rw [e1]
    obtain ⟨m, rfl⟩ : ∃ m : Nat, c = m := ⟨c.toNat, by omega⟩
    rw [Int.toNat_natCast]
    have k3 : (m : Int).tmod (-9223372036854775808) = (m : Int) := by
      rw [Int.tmod_neg, Int.tmod_eq_emod_of_nonneg (by omega), Int.emod_eq_of_lt (by omega) (by omega)]
    have h9 : ¬ (m : Int) < 0 := h
    go_enter Try.func16, Try.ntmps16
    go_wp2
    go_ret
    exact ⟨rfl, rfl⟩
end Go.Proofs.Ytgepgbpjdjbelaa
