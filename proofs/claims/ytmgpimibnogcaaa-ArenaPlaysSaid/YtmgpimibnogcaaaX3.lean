/-
  WALK of Used.
-/
import Derived.Test.YtmgpimibnogcaaaX2
set_option linter.unusedVariables false
set_option linter.unusedSimpArgs false
namespace Go.Proofs.Ytmgpimibnogcaaa
open Go.RowKit

theorem new_at (w : World) (cs : List Value) (t : TypeId) (A : Array Value) (hA : A = cs.toArray) : ∀ j u, cs[j]? = some u → (w.alloc (.cells A t)).cell? (({ block := w.heap.size, off := 0 } : Addr).add j) = some u := by
  subst hA
  exact new_cells w cs t
theorem info3 : ∃ i, Try.prog.info? 3 = some i ∧ i.zero = some (.int .i64 0) ∧ i.size = 1 ∧ i.bytes = 8 := info_parts (by kernel_rfl)
theorem isW_of {Bs pre post : List Blk} {c : Blk} (hw : Wf Bs) (hBs : Bs = pre ++ c :: post) : isW (words Bs) (ahs Bs) 1 ((1 + len pre : Nat) : Int) = c.us := by
  subst hBs
  cases hu : c.us with
  | true => exact isW_used hw hu
  | false =>
    refine isW_none hw fun b _ hb => ?_
    rw [Int.toNat_natCast] at hb
    rw [← hb.unique ⟨pre, post, rfl, rfl⟩] at hu
    exact hu
theorem usedL_one (a : Nat) (c : Blk) : usedL a [c] = if c.us = true then [(a : Int)] else [] := by
  rw [usedL, usedL, List.append_nil]
set_option maxRecDepth 1000000 in
set_option maxHeartbeats 3200000 in
theorem used_any (q p b : Nat) (Bs : List Blk) (w : World) (h : Arena q p b Bs w) :
    Calls Try.prog 24 #[.pointer (some ⟨q, 0, none⟩)] w fun e w' => ∃ v, e = .returned v ∧ IOwn w' w.heap.size v (usedL 1 Bs) ∧ Below w.heap.size w w' := by
  obtain ⟨hw, hm⟩ := h
  have HW := Lib.hid hw
  have HM := Lib.hid hm
  have hn2 := hw.n2
  rw [words_length] at hn2
  have hL := words_length Bs
  obtain ⟨i0, hi, hz0, hz1, hz2⟩ := info3
  have HG := Lib.hid (wf_good hw)
  clear hw hm
  go_enter Try.func24, Try.ntmps24
  go_wp2
  go_loopg [3, 4] Bs.length (fun g v i wr => ∃ (pre rest : List Blk), Bs = pre ++ rest ∧ rest.length = g ∧ i = .int .i64 ((1 + len pre : Nat) : Int) ∧ IOwn wr w.heap.size v (usedL 1 pre) ∧ Below w.heap.size w wr)
  case atStart => exact ⟨[], Bs, rfl, rfl, rfl, IOwn.nil _ _, Below.refl _ _⟩
  case round =>
    obtain ⟨pre, rest, hBs, hg, rfl, ho, hb⟩ := hrel
    obtain ⟨av, cv, rfl⟩ := own_form ho
    have HO := Lib.hid ho
    have HBE := Lib.hid hb
    have M1 := Lib.hid (HM.out.below hb)
    obtain ⟨c0, l1, l2⟩ := M1.out.box
    have hsz := hb.size
    have hul := usedL_length 1 pre
    clear ho hb
    cases rest with
    | nil =>
      rw [List.append_nil] at hBs
      subst hBs
      have hge : ¬ ((1 + len Bs : Nat) : Int) < ((words Bs).length : Int) := by omega
      go_wp2
      go_ret
      exact ⟨_, rfl, HO.out, HBE.out⟩
    | cons c r =>
      have hat : At Bs (1 + len pre) c := ⟨pre, r, hBs, rfl⟩
      obtain ⟨hh1, hh2, hh3⟩ := hat.head HW.out
      have hfit := hat.fits
      have hs := hat.szW
      have HIS := Lib.hid (fun W (h : Mem q p b (words Bs) (ahs Bs) (FreeAt Bs) W) => is_any q p b _ _ _ W h HG.out 1 ((1 + len pre : Nat) : Int))
      rw [isW_of HW.out hBs] at HIS
      have HSZ := Lib.hid (fun W (h : Mem q p b (words Bs) (ahs Bs) (FreeAt Bs) W) => size_mem h (1 + len pre) c.hd hh1 (by omega) (by omega))
      rw [hs] at HSZ
      have hlt : ((1 + len pre : Nat) : Int) < ((words Bs).length : Int) := by unfold Blk.sz at hfit; omega
      have hcs : c.sz ≤ 1048576 := by omega
      have hc1 : 1 ≤ c.sz := by unfold Blk.sz; omega
      have hpre : 1 + len pre ≤ 1048576 := by omega
      have HB := Lib.hid hBs
      have HU := Lib.hid (usedL_append 1 pre [c])
      have hgg : r.length < gk := by rw [← hg, List.length_cons]; omega
      have hw1 : IntKind.i64.wrap (((1 + len pre : Nat) : Int) + (c.sz : Int)) = ((1 + len pre : Nat) : Int) + (c.sz : Int) := IntWalk.i64_in _ (by omega)
      clear hat hh1 hh2 hh3 hs hBs hfit hg
      rw [usedL_one] at HU
      generalize hn : 1 + len pre = a at *
      generalize hnu : (usedL 1 pre).length = nu at *
      have hnu2 : nu ≤ 1048576 := by omega
      have hnext : a + c.sz = 1 + len (pre ++ [c]) := by rw [len_append, len_cons, len_nil]; omega
      have HX := Lib.hid hnext
      clear hnext
      go_wp2_with fail
      refine (HIS.out _ M1.out).mono ?_
      rintro e w' ⟨rfl, rfl⟩
      cases hu : c.us with
      | true =>
        rw [if_pos hu] at HU
        clear HIS
        go_wp2_with (at_builtin; refine wpList_append_own2 rfl (.tmp 20) (.tmp 22) 32 rfl w.heap.size 3 i0 (.int .i64 0) 1 8 Try.underlying32 hi hz0 hz1 hz2 rfl (by decide) _ _ _ rfl (HO.out.alloc _) ⟨_, 0, none⟩ 1 1 [.int .i64 (a : Int)] rfl rfl ?ua ?ub ?uc ?ud ?ue ?_)
        case ua => exact new_at _ [.int .i64 (a : Int)] 3 _ (by simp)
        case ub => exact int_cells .i64 [(a : Int)]
        case uc => unfold maxLen; omega
        case ud => omega
        case ue => simp; omega
        intro v3 w3 own3 hg3 hm3
        have O3 := Lib.hid (IOwn.more own3 hnu.symm rfl)
        have B3 := Lib.hid ((HBE.out.alloc HBE.out.size (.cells #[.int .i64 (a : Int)] 3)).grown hg3 (by simp; omega) (fun k hk => by have := own_block_ge HO.out k hk; omega))
        have M3 := Lib.hid (HM.out.below B3.out)
        have hz3 := B3.out.size
        clear own3 hg3 hm3 c0 l1 l2 M1 HO HBE
        go_wp2_with fail
        refine (HSZ.out _ M3.out).mono ?_
        rintro e w4 ⟨rfl, rfl⟩
        go_wp2
        go_roundg r.length
        case measure => exact hgg
        case rel =>
          refine ⟨pre ++ [c], r, by rw [HB.out]; simp, rfl, by rw [← HX.out]; rfl, ?_, B3.out⟩
          rw [HU.out]
          exact O3.out
      | false =>
        rw [if_neg (by rw [hu]; decide), List.append_nil] at HU
        clear HIS
        have O3 := HO
        have B3 := HBE
        have M3 := M1
        go_wp2_with fail
        refine (HSZ.out _ M3.out).mono ?_
        rintro e w4 ⟨rfl, rfl⟩
        go_wp2
        go_roundg r.length
        case measure => exact hgg
        case rel =>
          refine ⟨pre ++ [c], r, by rw [HB.out]; simp, rfl, by rw [← HX.out]; rfl, ?_, B3.out⟩
          rw [HU.out]
          exact O3.out
end Go.Proofs.Ytmgpimibnogcaaa
