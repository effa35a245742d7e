/-
  THE ITERATOR over the bits of a map: its contract.
-/
import Derived.Test.YtgepgbpjdjbelaaRa
import Derived.RangeFuncNested
import Derived.RangeFuncBound
import Derived.RangeFuncCalls
import Derived.RangeFuncLeaves
import Derived.OwnWalkIn
import Derived.TacticsInMore
import Derived.LoopNIn
import Derived.LoopIn
set_option linter.unusedVariables false
set_option linter.unusedSimpArgs false
namespace Go.Proofs.Ytgepgbpjdjbelaa
open Go.RowKit

attribute [local go_sem] Oper.semAt_some
/-- The blocks of cells but those of S are as they were. -/
def KpC (S : Nat → Prop) (W W' : World) : Prop := ∀ (k : Nat) (o : Obj), ¬ S k → W.heap[k]? = some o → o.isCells = true → W'.heap[k]? = some o
theorem KpC.refl (S : Nat → Prop) (W : World) : KpC S W W := fun _ _ _ h _ => h
theorem KpC.trans {S : Nat → Prop} {A B C : World} (h : KpC S A B) (k : KpC S B C) : KpC S A C := fun i o hi ho hc => k i o hi (h i o hi ho hc) hc
theorem kpC_b {S : Nat → Prop} {w : World} (W : World) (l : Nat) (o o' : Obj) (_ : w.heap.size ≤ l) (h : W.heap[l]? = some o) (hc : o.isCells = false) (_ : o.isWalk = false) : KpC S W (W.putObj l o') := fun k x _ hk hx => by
  have hne : k ≠ l := by
    rintro rfl
    rw [h] at hk
    cases hk
    rw [hc] at hx
    cases hx
  exact (World.putObj_heap_other hne).trans hk
theorem KpC.cell {S : Nat → Prop} {W W' : World} (h : KpC S W W') {k i : Nat} {v : Value} (hk : ¬ S k) (hc : W.cell? ⟨k, i, none⟩ = some v) : W'.cell? ⟨k, i, none⟩ = some v := by
  obtain ⟨o, ho, hx⟩ := cells_of_cell hc
  have h2 := h k o hk ho hx
  have : W'.cell? ⟨k, i, none⟩ = W.cell? ⟨k, i, none⟩ := by simp only [World.cell?, h2, ho]
  exact this.trans hc
theorem KpC.block {S : Nat → Prop} {W W' : World} (h : KpC S W W') {k : Nat} {cs : Array Value} {t : TypeId} {m : Nat × Nat} (hk : ¬ S k) (hc : W.heap[k]? = some (.cells cs t m)) : W'.heap[k]? = some (.cells cs t m) := h k _ hk hc rfl
theorem KpC.below {S : Nat → Prop} {W W' : World} (h : Below W.heap.size W W') : KpC S W W' := fun k o _ ho _ => (h.block k (lt_of_block ho)).trans ho
/-- The first k places. -/
def fst {N : Nat} (k : Nat) : List (Fin N) := (List.finRange N).take k
theorem fst_zero {N : Nat} : (fst 0 : List (Fin N)) = [] := rfl
theorem fst_succ {N k : Nat} (h : k < N) : (fst (k + 1) : List (Fin N)) = fst k ++ [⟨k, h⟩] := by
  unfold fst
  rw [List.take_succ_eq_append_getElem (by simpa using h)]
  simp
theorem fst_len {N k : Nat} (h : k ≤ N) : (fst k : List (Fin N)).length = k := by simp [fst, h]
theorem fst_all {N : Nat} : (fst N : List (Fin N)) = List.finRange N := by
  unfold fst
  exact List.take_of_length_le (by simp)
set_option maxRecDepth 1000000 in
set_option maxHeartbeats 6400000 in
theorem iter_stops (F : Fence) (n : Nat) (h40 : F.fn 40) (hro : F.round = none) (hn : 1 ≤ n) (S : Nat → Prop) (Bm n1 n2 N c1 c2 : Nat) (A1 A2 : Option Addr) (adr : Nat → Addr) (w : World) (hN : N = n1 + n2) (hbig : N ≤ 1000000)
    (hS : ∀ k, S k → k < w.heap.size) (hB : Bm < w.heap.size) (m1 : w.cell? ⟨Bm, 0, none⟩ = some (.slice A1 n1 c1)) (m2 : w.cell? ⟨Bm, 1, none⟩ = some (.slice A2 n2 c2))
    (ha1 : ∀ i, i < n1 → ∃ b o, A1 = some ⟨b, o, none⟩ ∧ adr i = ⟨b, o + i, none⟩) (ha2 : ∀ i, i < n2 → ∃ b o, A2 = some ⟨b, o, none⟩ ∧ adr (n1 + i) = ⟨b, o + i, none⟩) :
    SeqStopsK F n Try.prog 40 #[.pointer (some ⟨Bm, 0, none⟩)] (fun x : Fin N => #[.int .i64 ((x.1 : Nat) : Int), .pointer (some (adr x.1))]) (KpC S) (fun ys => ys = List.finRange N) (fun _ => True) N w := fun l J Jx W hW hJ _ hY h0 => by
  have k1 := (hW.cell (p := ⟨Bm, 0, none⟩) hB).trans m1
  have k2 := (hW.cell (p := ⟨Bm, 1, none⟩) hB).trans m2
  have HS : ∀ k, w.heap.size ≤ k → ¬ S k := fun k hk hs => by have := hS k hs; omega
  have hWs := hW.size
  clear m1 m2 hB hW hS
  have HA1 := Lib.hid ha1
  have HA2 := Lib.hid ha2
  have HYY := Lib.hid hY
  have HNN := Lib.hid hN
  clear ha1 ha2 hY hN
  refine callsIn_of_wp Try.func40 rfl h40 ?_ hro
  simp only [Try.ntmps40, List.size_toArray, List.length_cons, List.length_nil, Nat.reduceAdd, Nat.reduceSub, Array.replicate_succ, Array.replicate_zero, List.push_toArray, List.append_toArray, List.nil_append, List.cons_append]
  gi_wp2
  have hJ1 : J (fst 0) (W.alloc (.cells #[.slice A1 n1 c1, .slice A2 n2 c2] 23)) := hJ [] W _ none h0 (World.grownBy_alloc W _ none) (fun r e => by cases e)
  have hl1 := heap_new W (.cells #[.slice A1 n1 c1, .slice A2 n2 c2] 23)
  have HJ1 := Lib.hid hJ1
  clear hJ1 h0
  gi_loopw [3, 13] (fun nv iv wr => ∃ p : Nat, ((iv = .int .i64 0 ∧ nv = .int .i64 0 ∧ p = 0) ∨ (iv = .int .i64 1 ∧ nv = .int .i64 (n1 : Int) ∧ p = n1) ∨ (iv = .int .i64 2 ∧ nv = .int .i64 (N : Int) ∧ p = N)) ∧ J (fst p) wr ∧ wr.heap[W.heap.size]? = some (.cells #[.slice A1 n1 c1, .slice A2 n2 c2] 23 (0, 0))) (fun _ iv _ => 2 - (intOf iv).toNat)
  case atStart => exact ⟨0, .inl ⟨rfl, rfl, rfl⟩, HJ1.out, hl1⟩
  case round =>
    obtain ⟨p0, hjp, hJs, hl⟩ := hrel
    have HJ := Lib.hid hJs
    clear hJs HJ1 hl1
    have hn1 : n1 ≤ 1000000 := by have := HNN.out; omega
    have hn2 : n2 ≤ 1000000 := by have := HNN.out; omega
    have q0 := cells_of hl 0
    have q1 := cells_of hl 1
    simp only [List.getElem?_toArray, List.getElem?_cons_succ, List.getElem?_cons_zero] at q0 q1
    rcases hjp with ⟨rfl, rfl, rfl⟩ | ⟨rfl, rfl, hpn⟩ | ⟨rfl, rfl, hpn⟩
    · gi_wp2
      gi_loopw [3, 19] (fun nv iv wx => ∃ i p : Nat, i ≤ n1 ∧ p = 0 + i ∧ iv = .int .i64 (i : Int) ∧ nv = .int .i64 (p : Int) ∧ J (fst p) wx ∧ wx.heap[W.heap.size]? = some (.cells #[.slice A1 n1 c1, .slice A2 n2 c2] 23 (0, 0))) (fun _ iv _ => n1 - (intOf iv).toNat)
      case atStart => exact ⟨0, _, Nat.zero_le _, rfl, rfl, rfl, HJ.out, hl⟩
      case round =>
        obtain ⟨i, p, hi, hp, rfl, rfl, hJs, hl2⟩ := hrel
        have HP := Lib.hid hp
        have hpN : i < n1 → p < N := fun h => by have := HNN.out; omega
        have hp5 : p ≤ 1000000 := by have := HNN.out; omega
        clear hp
        by_cases hlt : i < n1
        · obtain ⟨b, o, rfl, had⟩ := HA1.out i hlt
          replace had : adr p = ⟨b, o + i, none⟩ := by rw [HP.out, Nat.zero_add]; exact had
          obtain ⟨fn, tmps, assign, body, hy, hR⟩ := HYY.out (fst p) ⟨p, hpN hlt⟩ _ hJs (by rw [fst_len (Nat.le_of_lt (hpN hlt))]; exact hpN hlt)
          dsimp only at hy
          rw [had] at hy
          have HF := Lib.hid (fst_succ (hpN hlt))
          clear had hJs
          gi_wp2
          refine hR.mono ?_
          rintro e W3 (⟨rfl, hJ3, hk3⟩ | ⟨rfl, hJx3⟩)
          · have hl3 := hk3.block (HS _ hWs) hl2
            have HJ3 := Lib.hid hJ3
            clear hk3 hJ3
            gi_wp2
            go_roundw
            case rel => exact ⟨i + 1, p + 1, by omega, by have := HP.out; omega, by go_num, by go_num, by rw [HF.out]; exact HJ3.out, hl3⟩
            case measure => simp [intOf]; omega
          · have HJx3 := Lib.hid hJx3
            clear hJx3
            gi_wp2
            refine bodyPost_ret (results_none rfl _ _ _) rfl ?_
            exact ⟨⟨_, rfl⟩, .inr ⟨_, trivial, HJx3.out⟩⟩
        · obtain rfl : i = n1 := by omega
          have HJ4 := Lib.hid hJs
          clear hJs
          gi_wp2
          go_roundw
          case rel => exact ⟨p, .inr (.inl ⟨by first | rfl | go_num, by have := HP.out; go_num, by have := HP.out; omega⟩), HJ4.out, hl2⟩
          case measure => simp [intOf]
    · obtain rfl : n1 = p0 := hpn.symm
      gi_wp2
      gi_loopw [3, 19] (fun nv iv wx => ∃ i p : Nat, i ≤ n2 ∧ p = n1 + i ∧ iv = .int .i64 (i : Int) ∧ nv = .int .i64 (p : Int) ∧ J (fst p) wx ∧ wx.heap[W.heap.size]? = some (.cells #[.slice A1 n1 c1, .slice A2 n2 c2] 23 (0, 0))) (fun _ iv _ => n2 - (intOf iv).toNat)
      case atStart => exact ⟨0, _, Nat.zero_le _, rfl, rfl, rfl, HJ.out, hl⟩
      case round =>
        obtain ⟨i, p, hi, hp, rfl, rfl, hJs, hl2⟩ := hrel
        have HP := Lib.hid hp
        have hpN : i < n2 → p < N := fun h => by have := HNN.out; omega
        have hp5 : p ≤ 1000000 := by have := HNN.out; omega
        clear hp
        by_cases hlt : i < n2
        · obtain ⟨b, o, rfl, had⟩ := HA2.out i hlt
          replace had : adr p = ⟨b, o + i, none⟩ := by rw [HP.out]; exact had
          obtain ⟨fn, tmps, assign, body, hy, hR⟩ := HYY.out (fst p) ⟨p, hpN hlt⟩ _ hJs (by rw [fst_len (Nat.le_of_lt (hpN hlt))]; exact hpN hlt)
          dsimp only at hy
          rw [had] at hy
          have HF := Lib.hid (fst_succ (hpN hlt))
          clear had hJs
          gi_wp2
          refine hR.mono ?_
          rintro e W3 (⟨rfl, hJ3, hk3⟩ | ⟨rfl, hJx3⟩)
          · have hl3 := hk3.block (HS _ hWs) hl2
            have HJ3 := Lib.hid hJ3
            clear hk3 hJ3
            gi_wp2
            go_roundw
            case rel => exact ⟨i + 1, p + 1, by omega, by have := HP.out; omega, by go_num, by go_num, by rw [HF.out]; exact HJ3.out, hl3⟩
            case measure => simp [intOf]; omega
          · have HJx3 := Lib.hid hJx3
            clear hJx3
            gi_wp2
            refine bodyPost_ret (results_none rfl _ _ _) rfl ?_
            exact ⟨⟨_, rfl⟩, .inr ⟨_, trivial, HJx3.out⟩⟩
        · obtain rfl : i = n2 := by omega
          have HJ4 := Lib.hid hJs
          clear hJs
          gi_wp2
          go_roundw
          case rel => exact ⟨p, .inr (.inr ⟨by first | rfl | go_num, by have := HP.out; have := HNN.out; go_num, by have := HP.out; have := HNN.out; omega⟩), HJ4.out, hl2⟩
          case measure => simp [intOf]
    · obtain rfl : N = p0 := hpn.symm
      gi_wp2
      go_end0
      exact ⟨⟨_, rfl⟩, .inl (by rw [← fst_all]; exact HJ.out)⟩
end Go.Proofs.Ytgepgbpjdjbelaa
