/-
  WALK of Words.
-/
import Derived.Test.YtmgpimibnogcaaaPj
set_option linter.unusedVariables false
set_option linter.unusedSimpArgs false
namespace Go.Proofs.Ytmgpimibnogcaaa
open Go.RowKit

theorem state_mem {q p b : Nat} {ws : List Int} {ah : List Nat} {P : Nat → Prop} {w : World} (h : Mem q p b ws ah P w) (a : Nat) (v : Int) (hv : ws[a]? = some v) (h0 : 0 ≤ v) (h1 : v ≤ 2097152) :
    Calls Try.prog 46 #[.pointer (some ⟨q, 0, none⟩), .int .i64 (a : Int)] w fun e w' => e = .returned (.int .i64 (v % 2)) ∧ w' = w := by
  obtain ⟨bs, fr, hab, _⟩ := h
  exact state_any hab a v hv h0 h1
theorem Mem.below {q p b : Nat} {ws : List Int} {ah : List Nat} {P : Nat → Prop} {w w' : World} (h : Mem q p b ws ah P w) (hb : Below w.heap.size w w') : Mem q p b ws ah P w' := by
  obtain ⟨bs, fr, hab, h2⟩ := h
  exact ⟨bs, fr, hab.below hb, h2⟩
theorem sumOf_append (st : Bool) : ∀ A B : List Blk, sumOf st (A ++ B) = sumOf st A + sumOf st B
  | [], B => by rw [List.nil_append, sumOf, Nat.zero_add]
  | a :: A, B => by rw [List.cons_append, sumOf, sumOf, sumOf_append st A B, Nat.add_assoc]
def two (a b : Nat) : Array Value := #[.int .i64 (a : Int), .int .i64 (b : Int)]
theorem zero72 (w : World) : (zeroValue 72).run Try.prog w = .ok (.agg (two 0 0)) w := by kernel_rfl
set_option maxRecDepth 1000000 in
set_option maxHeartbeats 3200000 in
theorem words_any (q p b : Nat) (Bs : List Blk) (w : World) (h : Arena q p b Bs w) :
    Calls Try.prog 22 #[.pointer (some ⟨q, 0, none⟩)] w fun e w' => e = .returned (.tuple #[.int .i64 (sumOf true Bs : Int), .int .i64 (sumOf false Bs : Int)]) ∧ Below w.heap.size w w' := by
  obtain ⟨hw, hm⟩ := h
  have HW := Lib.hid hw
  have HM := Lib.hid hm
  have hn2 := hw.n2
  rw [words_length] at hn2
  have hL := words_length Bs
  have T0 := Lib.hid (heap_new w (.cells (two 0 0) 72 (0, 0)))
  have B0 := Lib.hid ((Below.refl w.heap.size w).alloc (Nat.le_refl _) (.cells (two 0 0) 72 (0, 0)))
  clear hw hm
  go_enter Try.func22, Try.ntmps22
  have hz72 := zero72 w
  go_wp2
  clear hz72
  go_loopw [5] (fun i wr => ∃ (pre rest : List Blk), Bs = pre ++ rest ∧ i = .int .i64 ((1 + len pre : Nat) : Int) ∧ wr.heap[w.heap.size]? = some (.cells (two (sumOf false pre) (sumOf true pre)) 72 (0, 0)) ∧ Below w.heap.size w wr) (fun i _ => (words Bs).length - (intOf i).toNat)
  case atStart => exact ⟨[], Bs, rfl, rfl, T0.out, B0.out⟩
  case round =>
    obtain ⟨pre, rest, hBs, rfl, ht, hb⟩ := hrel
    have HT := Lib.hid ht
    have HBE := Lib.hid hb
    have M1 := Lib.hid (HM.out.below hb)
    obtain ⟨c0, l1, l2⟩ := M1.out.box
    have hsz := hb.size
    have htl := lt_of_block ht
    clear ht hb
    cases rest with
    | nil =>
      rw [List.append_nil] at hBs
      subst hBs
      have hge : ¬ ((1 + len Bs : Nat) : Int) < ((words Bs).length : Int) := by omega
      have k0 := cells_of HT.out 0
      have k1 := cells_of HT.out 1
      have e0 : (two (sumOf false Bs) (sumOf true Bs))[0]? = some (.int .i64 (sumOf false Bs : Int)) := rfl
      have e1 : (two (sumOf false Bs) (sumOf true Bs))[1]? = some (.int .i64 (sumOf true Bs : Int)) := rfl
      rw [e0] at k0
      rw [e1] at k1
      clear e0 e1 T0 B0
      go_wp2
      go_region_with fail
      all_goals
        go_wp2
        go_ret2
        exact ⟨rfl, HBE.out.drew⟩
    | cons c r =>
      have hat : At Bs (1 + len pre) c := ⟨pre, r, hBs, rfl⟩
      obtain ⟨hh1, hh2, hh3⟩ := hat.head HW.out
      have hfit := hat.fits
      have hs := hat.szW
      have HSZ := Lib.hid (fun W (h : Mem q p b (words Bs) (ahs Bs) (FreeAt Bs) W) => size_mem h (1 + len pre) c.hd hh1 (by omega) (by omega))
      have HST := Lib.hid (fun W (h : Mem q p b (words Bs) (ahs Bs) (FreeAt Bs) W) => state_mem h (1 + len pre) c.hd hh1 (by omega) (by omega))
      rw [hs] at HSZ
      rw [Blk.hd_mod] at HST
      have hlt : ((1 + len pre : Nat) : Int) < ((words Bs).length : Int) := by unfold Blk.sz at hfit; omega
      have hcs : c.sz ≤ 1048576 := by omega
      have hc1 : 1 ≤ c.sz := by unfold Blk.sz; omega
      have hlt : ((1 + len pre : Nat) : Int) < ((words Bs).length : Int) := by unfold Blk.sz at hfit; omega
      have hcs : c.sz ≤ 1048576 := by omega
      have hc1 : 1 ≤ c.sz := by unfold Blk.sz; omega
      have hpre : 1 + len pre ≤ 1048576 := by omega
      have hsf := sumOf_all pre
      have hs0 : sumOf false pre ≤ 1048576 := by have := hpre; omega
      have hs1 : sumOf true pre ≤ 1048576 := by have := hpre; omega
      have hwt : IntKind.i64.wrap ((sumOf true pre : Int) + (c.sz : Int)) = (sumOf true pre : Int) + (c.sz : Int) := IntWalk.i64_in _ (by omega)
      have hwf : IntKind.i64.wrap ((sumOf false pre : Int) + (c.sz : Int)) = (sumOf false pre : Int) + (c.sz : Int) := IntWalk.i64_in _ (by omega)
      have HB := Lib.hid hBs
      have HF := Lib.hid hfit
      clear hat hh1 hh2 hh3 hs T0 B0 hBs hfit hsf
      generalize hn : 1 + len pre = a at *
      cases hu : c.us with
      | true =>
        rw [if_pos hu] at HST
        have k1 := cells_of HT.out 1
        rw [show (two (sumOf false pre) (sumOf true pre))[1]? = some (.int .i64 (sumOf true pre : Int)) from rfl] at k1
        have kf := free_of HT.out 1
        go_wp2_with fail
        go_region_with (first | (refine (HST.out _ (M1.out.drewN _)).mono ?_; rintro e w' ⟨rfl, rfl⟩) | (refine (HSZ.out _ (M1.out.drewN _)).mono ?_; rintro e w' ⟨rfl, rfl⟩))
        all_goals
          have B2 := Lib.hid (show Below w.heap.size w ((wr.drewN 1).setCell { block := w.heap.size, off := 1 } (Value.int IntKind.i64 (↑(sumOf true pre) + ↑c.sz))) from Below.setCell (show Below w.heap.size w (wr.drewN 1) from ⟨HBE.out.os, HBE.out.tape, HBE.out.output, HBE.out.size, HBE.out.block⟩) (Nat.le_refl _) _)
          have M2 := Lib.hid (HM.out.below B2.out)
          have HT2 := Lib.hid (heap_set_eq (i := 1) (u := Value.int IntKind.i64 (↑(sumOf true pre) + ↑c.sz)) (w := wr.drewN 1) HT.out)
          clear k1 kf c0 l1 l2 hsz htl
          generalize (wr.drewN 1).setCell { block := w.heap.size, off := 1 } (Value.int IntKind.i64 (↑(sumOf true pre) + ↑c.sz)) = w2 at *
          go_wp2_with fail
          refine (HSZ.out _ M2.out).mono ?_
          rintro e w' ⟨rfl, rfl⟩
          go_wp2
          go_roundw
          case measure => simp [intOf]; omega
          case rel =>
            have ht2 := HT2.out
            rw [show (sumOf true pre : Int) + (c.sz : Int) = ((sumOf true pre + c.sz : Nat) : Int) by omega] at ht2
            refine ⟨pre ++ [c], r, by rw [HB.out]; simp, by rw [len_append, len_cons, len_nil, ← hn]; congr 1; omega, ?_, B2.out⟩
            rw [sumOf_append, sumOf_append, sumOf, sumOf, sumOf, sumOf, if_pos hu, if_neg (by rw [hu]; decide)]
            exact ht2
      | false =>
        rw [if_neg (by rw [hu]; decide)] at HST
        have k1 := cells_of HT.out 0
        rw [show (two (sumOf false pre) (sumOf true pre))[0]? = some (.int .i64 (sumOf false pre : Int)) from rfl] at k1
        have kf := free_of HT.out 0
        go_wp2_with fail
        go_region_with (first | (refine (HST.out _ (M1.out.drewN _)).mono ?_; rintro e w' ⟨rfl, rfl⟩) | (refine (HSZ.out _ (M1.out.drewN _)).mono ?_; rintro e w' ⟨rfl, rfl⟩))
        all_goals
          have B2 := Lib.hid (show Below w.heap.size w ((wr.drewN 1).setCell { block := w.heap.size, off := 0 } (Value.int IntKind.i64 (↑(sumOf false pre) + ↑c.sz))) from Below.setCell (show Below w.heap.size w (wr.drewN 1) from ⟨HBE.out.os, HBE.out.tape, HBE.out.output, HBE.out.size, HBE.out.block⟩) (Nat.le_refl _) _)
          have M2 := Lib.hid (HM.out.below B2.out)
          have HT2 := Lib.hid (heap_set_eq (i := 0) (u := Value.int IntKind.i64 (↑(sumOf false pre) + ↑c.sz)) (w := wr.drewN 1) HT.out)
          clear k1 kf c0 l1 l2 hsz htl
          generalize (wr.drewN 1).setCell { block := w.heap.size, off := 0 } (Value.int IntKind.i64 (↑(sumOf false pre) + ↑c.sz)) = w2 at *
          go_wp2_with fail
          refine (HSZ.out _ M2.out).mono ?_
          rintro e w' ⟨rfl, rfl⟩
          go_wp2
          go_roundw
          case measure => simp [intOf]; omega
          case rel =>
            have ht2 := HT2.out
            rw [show (sumOf false pre : Int) + (c.sz : Int) = ((sumOf false pre + c.sz : Nat) : Int) by omega] at ht2
            refine ⟨pre ++ [c], r, by rw [HB.out]; simp, by rw [len_append, len_cons, len_nil, ← hn]; congr 1; omega, ?_, B2.out⟩
            rw [sumOf_append, sumOf_append, sumOf, sumOf, sumOf, sumOf, if_pos hu, if_neg (by rw [hu]; decide)]
            exact ht2
end Go.Proofs.Ytmgpimibnogcaaa
