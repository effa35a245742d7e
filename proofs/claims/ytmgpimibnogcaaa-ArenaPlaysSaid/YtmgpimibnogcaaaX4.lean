/-
  WALKS of the laws' small functions: pick, sameInts.
-/
import Derived.Test.YtmgpimibnogcaaaX3
import Derived.Deep.QuietTactic
set_option linter.unusedVariables false
set_option linter.unusedSimpArgs false
namespace Go.Proofs.Ytmgpimibnogcaaa
open Go.RowKit

theorem ret_b {a b : Bool} (h : a = b) : Ending.returned (.bool a) = .returned (.bool b) := by rw [h]
/-- Which of n things the number c speaks of. -/
def pickN (c : Int) (n : Nat) : Nat := (if c < 0 then -(c + 1) else c).toNat % n
theorem pickN_lt (c : Int) {n : Nat} (h : 0 < n) : pickN c n < n := Nat.mod_lt _ h
set_option maxRecDepth 1000000 in
set_option maxHeartbeats 1600000 in
theorem pick_any (c : Int) (n : Nat) (w : World) (hc : -9223372036854775808 ≤ c ∧ c ≤ 9223372036854775807) (h0 : 0 < n) (hn : n ≤ 1048576) :
    Calls Try.prog 13 #[.int .i64 c, .int .i64 (n : Int)] w fun e w' => e = .returned (.int .i64 (pickN c n : Int)) ∧ w' = w := by
  have hz : ((n : Int) == 0) = false := by rw [beq_eq_false_iff_ne]; omega
  have hz' : ¬ (n : Int) = 0 := by omega
  by_cases h : c < 0
  · have e1 : pickN c n = (-(c + 1)).toNat % n := by unfold pickN; rw [if_pos h]
    rw [e1]
    have k1 : IntKind.i64.wrap (c + 1) = c + 1 := IntWalk.i64_in _ (by omega)
    have k2 : IntKind.i64.wrap (-(c + 1)) = -(c + 1) := IntWalk.i64_in _ (by omega)
    obtain ⟨m, hm⟩ : ∃ m : Nat, -(c + 1) = m := ⟨(-(c + 1)).toNat, by omega⟩
    rw [hm] at k2 ⊢
    rw [Int.toNat_natCast]
    have hm3 : (m : Int) ≤ 9223372036854775807 := by omega
    have hlt : m % n < n := Nat.mod_lt _ h0
    have k3 : IntKind.i64.wrap ((m : Int).tmod n) = ((m % n : Nat) : Int) := by
      rw [Int.tmod_eq_emod_of_nonneg (by omega), ← Int.natCast_emod, IntWalk.i64_in _ (by omega)]
    go_enter Try.func13, Try.ntmps13
    go_wp2
    go_ret
    exact ⟨by show Ending.returned (.int .i64 ((m : Int) % n)) = _; rw [Int.natCast_emod], rfl⟩
  · have e1 : pickN c n = c.toNat % n := by unfold pickN; rw [if_neg h]
    rw [e1]
    obtain ⟨m, rfl⟩ : ∃ m : Nat, c = m := ⟨c.toNat, by omega⟩
    rw [Int.toNat_natCast]
    have hlt : m % n < n := Nat.mod_lt _ h0
    have k3 : IntKind.i64.wrap ((m : Int).tmod n) = ((m % n : Nat) : Int) := by
      rw [Int.tmod_eq_emod_of_nonneg (by omega), ← Int.natCast_emod, IntWalk.i64_in _ (by omega)]
    have h9 : ¬ (m : Int) < 0 := h
    go_enter Try.func13, Try.ntmps13
    go_wp2
    go_ret
    exact ⟨rfl, rfl⟩
theorem IRow.form {B : Nat} {w : World} {v : Value} {l : List Int} (h : IRow B w v l) : ∃ A c, v = .slice A l.length c ∧ l.length ≤ c ∧ l.length ≤ maxLen := by
  obtain ⟨A, c, e, h1, h2, _⟩ := h
  exact ⟨A, c, e, h1, h2⟩
theorem IRow.below {B B' : Nat} {w w' : World} {v : Value} {l : List Int} (h : IRow B w v l) (hb : Below B' w w') (hB : B ≤ B') : IRow B w' v l := Row.keep h fun p hp => hb.cell (p := p) (by omega)
theorem IRow.alloc {B : Nat} {w : World} {v : Value} {l : List Int} (h : IRow B w v l) (hB : B ≤ w.heap.size) (o : Obj) : IRow B (w.alloc o) v l := Row.keep h fun p hp => World.cell?_alloc_lt w o p (by omega)
theorem IRow.at_ {B : Nat} {w : World} {A : Option Addr} {n cap : Nat} {is : List Int} {k : Nat} {c : Int} (h : IRow B w (.slice A n cap) is) (hk : is[k]? = some c) :
    ∃ b o, A = some ⟨b, o, none⟩ ∧ b < B ∧ w.cell? ⟨b, o + k, none⟩ = some (.int .i64 c) := by
  obtain ⟨A', cap', e, _, _, _, h2⟩ := h
  injection e with e1 e2 e3
  subst e1
  have hl : k < is.length := (List.getElem?_eq_some_iff.1 hk).1
  obtain ⟨b, o, e, hb, hc⟩ := h2 (by omega)
  exact ⟨b, o, e, hb, hc _ _ (by unfold icells; rw [List.getElem?_map, hk]; rfl)⟩
theorem below_drewN {B : Nat} {a w : World} (h : Below B a w) (n : Nat) : Below B a (w.drewN n) := ⟨h.os, h.tape, h.output, h.size, h.block⟩
theorem IRow.drewN {B : Nat} {w : World} {v : Value} {l : List Int} (h : IRow B w v l) (n : Nat) : IRow B (w.drewN n) v l := Row.keep h fun _ _ => rfl
/-- The world w, some draws later. -/
def Drawn (w wr : World) : Prop := ∃ n, wr = w.drewN n
theorem Drawn.refl (w : World) : Drawn w w := ⟨0, rfl⟩
theorem Drawn.step {w wr : World} (h : Drawn w wr) (n : Nat) : Drawn w (wr.drewN n) := by
  obtain ⟨m, rfl⟩ := h
  exact ⟨m + n, by rw [World.drewN_drewN]⟩
theorem Drawn.irow {B : Nat} {w wr : World} {v : Value} {l : List Int} (h : Drawn w wr) (hr : IRow B w v l) : IRow B wr v l := by
  obtain ⟨m, rfl⟩ := h
  exact hr.drewN m
theorem Drawn.size {w wr : World} (h : Drawn w wr) : wr.heap.size = w.heap.size := by
  obtain ⟨m, rfl⟩ := h
  rfl
theorem Drawn.below {w wr : World} (h : Drawn w wr) : Below w.heap.size w wr := by
  obtain ⟨m, rfl⟩ := h
  exact below_drewN (Below.refl _ _) m
theorem take_ext {α : Type} {a b : List α} {k : Nat} {x : α} (h : a.take k = b.take k) (ha : a[k]? = some x) (hb : b[k]? = some x) : a.take (k + 1) = b.take (k + 1) := by
  rw [List.take_add_one, List.take_add_one, h, ha, hb]
set_option maxRecDepth 1000000 in
set_option maxHeartbeats 3200000 in
theorem sameInts_any (B : Nat) (a b : List Int) (va vb : Value) (w : World) (ha : IRow B w va a) (hb : IRow B w vb b) (hB : B ≤ w.heap.size) :
    Calls Try.prog 25 #[va, vb] w fun e w' => e = .returned (.bool (decide (a = b))) ∧ Drawn w w' := by
  obtain ⟨Aa, ca, rfl, hca, hma⟩ := ha.form
  obtain ⟨Ab, cb, rfl, hcb, hmb⟩ := hb.form
  unfold maxLen at hma hmb
  have HA := Lib.hid ha
  have HB := Lib.hid hb
  clear ha hb
  by_cases hl : a.length = b.length
  · obtain ⟨n, hn⟩ : ∃ n, a.length = n := ⟨_, rfl⟩
    rw [hn] at hl hca hma HA
    rw [← hl] at hcb hmb HB ⊢
    rw [hn]
    have HLA := Lib.hid hn
    have HLB := Lib.hid hl.symm
    clear hn hl
    go_enter Try.func25, Try.ntmps25
    go_wp2
    go_loopw [5] (fun i wr => ∃ k : Nat, k ≤ n ∧ i = .int .i64 k ∧ a.take k = b.take k ∧ Drawn w wr) (fun i _ => n - (intOf i).toNat)
    case atStart => exact ⟨0, Nat.zero_le _, rfl, rfl, Drawn.refl _⟩
    case round =>
      obtain ⟨k, hk, rfl, hpre, hd⟩ := hrel
      have HD := Lib.hid hd
      have hsz := hd.below.size
      clear hd
      have HP := Lib.hid hpre
      clear hpre
      by_cases hlt : k < n
      · have hx := List.getElem?_eq_getElem (show k < a.length by rw [HLA.out]; exact hlt)
        have hy := List.getElem?_eq_getElem (show k < b.length by rw [HLB.out]; exact hlt)
        generalize a[k]'_ = x at hx
        generalize b[k]'_ = y at hy
        obtain ⟨ba, oa, rfl, hba, cx⟩ := (HD.out.irow HA.out).at_ hx
        obtain ⟨bb, ob, rfl, hbb, cy⟩ := (HD.out.irow HB.out).at_ hy
        have HX := Lib.hid hx
        have HY := Lib.hid hy
        have hbaw : ba < wr.heap.size := by omega
        have hbbw : bb < wr.heap.size := by omega
        clear hx hy
        by_cases he : x = y
        · have e1 : (x == y) = true := by simpa using he
          have e2 : (x != y) = false := by simpa using he
          have HE := Lib.hid he
          clear he
          go_wp2
          go_quiet (fail)
          go_wp2
          go_roundw
          case rel => exact ⟨k + 1, by omega, by go_num, take_ext HP.out HX.out (by rw [HE.out]; exact HY.out), HD.out.step _⟩
          case measure => simp [intOf]; omega
        · have e1 : (x == y) = false := by simpa using he
          have e2 : (x != y) = true := by simpa using he
          have HE := Lib.hid he
          clear he
          go_wp2
          go_quiet (fail)
          go_wp2
          go_ret
          refine ⟨ret_b (decide_eq_false fun e => HE.out ?_).symm, HD.out.step _⟩
          have := HX.out
          rw [e, HY.out] at this
          cases this
          rfl
      · have hkn : k = n := by omega
        have HKN := Lib.hid hkn
        clear hkn
        go_wp2
        go_ret
        refine ⟨ret_b (decide_eq_true ?_).symm, HD.out⟩
        have := HP.out
        rwa [HKN.out, List.take_of_length_le (by rw [HLA.out]; exact Nat.le_refl _), List.take_of_length_le (by rw [HLB.out]; exact Nat.le_refl _)] at this
  · have hd : decide (a = b) = false := decide_eq_false fun e => hl (by rw [e])
    rw [hd]
    have e1 : ((a.length : Int) == (b.length : Int)) = false := by simp; omega
    have e2 : ((a.length : Int) != (b.length : Int)) = true := by simp; omega
    clear hl hd
    go_enter Try.func25, Try.ntmps25
    go_wp2
    go_ret
    exact ⟨rfl, Drawn.refl _⟩
end Go.Proofs.Ytmgpimibnogcaaa
