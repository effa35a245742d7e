/-
  WALKS of the document's arena: Words, Used, Alloc.
-/
import Derived.Test.YtmgpimibnogcaaaR3
set_option linter.unusedVariables false
set_option linter.unusedSimpArgs false
namespace Go.Proofs.Ytmgpimibnogcaaa
open Go.RowKit

set_option maxRecDepth 1000000 in
set_option maxHeartbeats 3200000 in
theorem rwords_any (r rp : Nat) (Bs : List Blk) (w : World) (hw : Wf Bs) (h : RM r rp (words Bs) w) :
    Calls Try.prog 36 #[.pointer (some ⟨r, 0, none⟩)] w fun e w' => e = .returned (.tuple #[.int .i64 (sumOf true Bs : Int), .int .i64 (sumOf false Bs : Int)]) ∧ w' = w := by
  have HW := Lib.hid hw
  have H := Lib.hid h
  have c0 := h.box
  rw [words_length] at c0
  obtain ⟨l1, l2⟩ := h.lt
  obtain ⟨hb1, hb2⟩ := wf_bound hw
  obtain ⟨N, hN⟩ : ∃ N, 1 + len Bs = N := ⟨_, rfl⟩
  rw [hN] at c0 hb1 hb2
  have HN := Lib.hid hN
  clear h hw hN
  go_enter Try.func36, Try.ntmps36
  go_wp2
  go_loopg [4, 5, 6] Bs.length (fun g uv fv kv wx => ∃ pre rest : List Blk, Bs = pre ++ rest ∧ rest.length = g ∧ uv = .int .i64 (sumOf true pre : Int) ∧ fv = .int .i64 (sumOf false pre : Int) ∧ kv = .int .i64 ((1 + len pre : Nat) : Int) ∧ wx = w)
  case atStart => exact ⟨[], Bs, rfl, rfl, rfl, rfl, rfl, rfl⟩
  case round =>
    obtain ⟨pre, rest, hB, hg, rfl, rfl, rfl, rfl⟩ := hrel
    cases rest with
    | nil =>
      rw [List.append_nil] at hB
      subst hB
      have hge : ¬ ((1 + len Bs : Nat) : Int) < (N : Int) := by have := HN.out; omega
      go_wp2
      go_ret2
      exact ⟨rfl, rfl⟩
    | cons c rr =>
      obtain ⟨f1, f2, f3, f4, f5, f6, f7⟩ := at_facts HW.out hB
      have hlt : ((1 + len pre : Nat) : Int) < (N : Int) := by have := HN.out; omega
      have hlt' : 1 + len pre < N := by have := HN.out; omega
      have hgg : rr.length < gk := by rw [← hg, List.length_cons]; omega
      have c1 := H.out.word f1
      have F6 := Lib.hid f6
      have F7 := Lib.hid f7
      have hdv := c.hd_half
      have hmd := c.hd_mod
      have hsa := sumOf_all pre
      have HST := Lib.hid (sumOf_append true pre [c])
      have HSF := Lib.hid (sumOf_append false pre [c])
      have hw1 : IntKind.i64.wrap (((1 + len pre : Nat) : Int) + (c.sz : Int)) = ((1 + len pre : Nat) : Int) + (c.sz : Int) := IntWalk.i64_in _ (by omega)
      have hw2 : IntKind.i64.wrap ((sumOf true pre : Int) + (c.sz : Int)) = (sumOf true pre : Int) + (c.sz : Int) := IntWalk.i64_in _ (by omega)
      have hw3 : IntKind.i64.wrap ((sumOf false pre : Int) + (c.sz : Int)) = (sumOf false pre : Int) + (c.sz : Int) := IntWalk.i64_in _ (by omega)
      clear f1 f6 f7 hB hg hsa
      rw [sumOf, sumOf] at HST HSF
      generalize hn1 : 1 + len pre = a at *
      clear hn1
      generalize c.hd = hd at *
      generalize sumOf true pre = st at *
      generalize sumOf false pre = sf at *
      cases hu : c.us with
      | true =>
        rw [if_pos hu] at hmd HST
        rw [if_neg (by rw [hu]; decide)] at HSF
        have HDV := Lib.hid hdv
        clear hu
        go_wp2
        go_roundg rr.length
        case measure => exact hgg
        case rel => exact ⟨pre ++ [c], rr, F7.out, rfl, by rw [HST.out]; first | rfl | (rw [HDV.out]; rfl), by rw [HSF.out]; rfl, by first | (rw [← F6.out]; rfl) | (rw [HDV.out, ← F6.out]; rfl), rfl⟩
      | false =>
        rw [if_neg (by rw [hu]; decide)] at hmd HST
        rw [if_pos hu] at HSF
        have HDV := Lib.hid hdv
        clear hu
        go_wp2
        go_roundg rr.length
        case measure => exact hgg
        case rel => exact ⟨pre ++ [c], rr, F7.out, rfl, by rw [HST.out]; rfl, by rw [HSF.out]; first | rfl | (rw [HDV.out]; rfl), by first | (rw [← F6.out]; rfl) | (rw [HDV.out, ← F6.out]; rfl), rfl⟩
set_option maxRecDepth 1000000 in
set_option maxHeartbeats 3200000 in
theorem rusedl_any (r rp : Nat) (Bs : List Blk) (w : World) (hw : Wf Bs) (h : RM r rp (words Bs) w) :
    Calls Try.prog 12 #[.pointer (some ⟨r, 0, none⟩)] w fun e w' => ∃ v, e = .returned v ∧ IOwn w' w.heap.size v (usedL 1 Bs) ∧ Below w.heap.size w w' := by
  have HW := Lib.hid hw
  have H := Lib.hid h
  obtain ⟨hb1, hb2⟩ := wf_bound hw
  obtain ⟨N, hN⟩ : ∃ N, 1 + len Bs = N := ⟨_, rfl⟩
  have HWL := Lib.hid (words_length Bs)
  rw [hN] at hb1 hb2 HWL
  have HN := Lib.hid hN
  obtain ⟨i0, hi, hz0, hz1, hz2⟩ := info3
  clear h hw hN
  go_enter Try.func12, Try.ntmps12
  go_wp2
  go_loopg [3, 4] Bs.length (fun g v kv wx => ∃ pre rest : List Blk, Bs = pre ++ rest ∧ rest.length = g ∧ kv = .int .i64 ((1 + len pre : Nat) : Int) ∧ IOwn wx w.heap.size v (usedL 1 pre) ∧ Below w.heap.size w wx)
  case atStart => exact ⟨[], Bs, rfl, rfl, rfl, IOwn.nil _ _, Below.refl _ _⟩
  case round =>
    obtain ⟨pre, rest, hB, hg, rfl, ho, hb⟩ := hrel
    obtain ⟨av, cv, rfl⟩ := own_form ho
    have HO := Lib.hid ho
    have HBE := Lib.hid hb
    have R1 := Lib.hid (H.out.below hb)
    have c0 := R1.out.box
    rw [HWL.out] at c0
    obtain ⟨l1, l2⟩ := R1.out.lt
    have hsz := hb.size
    have hul := usedL_length 1 pre
    clear ho hb
    cases rest with
    | nil =>
      rw [List.append_nil] at hB
      subst hB
      have hge : ¬ ((1 + len Bs : Nat) : Int) < (N : Int) := by have := HN.out; omega
      go_wp2
      go_ret
      exact ⟨_, rfl, HO.out, HBE.out⟩
    | cons c rr =>
      obtain ⟨f1, f2, f3, f4, f5, f6, f7⟩ := at_facts HW.out hB
      have hlt : ((1 + len pre : Nat) : Int) < (N : Int) := by have := HN.out; omega
      have hlt' : 1 + len pre < N := by have := HN.out; omega
      have hgg : rr.length < gk := by rw [← hg, List.length_cons]; omega
      have c1 := R1.out.word f1
      have F1 := Lib.hid f1
      have F6 := Lib.hid f6
      have F7 := Lib.hid f7
      have hdv := c.hd_half
      have hmd := c.hd_mod
      have HU := Lib.hid (usedL_append 1 pre [c])
      rw [usedL_one] at HU
      have hw1 : IntKind.i64.wrap (((1 + len pre : Nat) : Int) + (c.sz : Int)) = ((1 + len pre : Nat) : Int) + (c.sz : Int) := IntWalk.i64_in _ (by omega)
      clear f1 f6 f7 hB hg
      generalize hnu : (usedL 1 pre).length = nu at *
      have hnu2 : nu ≤ 1048576 := by omega
      generalize hn1 : 1 + len pre = a at *
      clear hn1
      generalize c.hd = hd at *
      cases hu : c.us with
      | true =>
        rw [if_pos hu] at hmd HU
        have HDV := Lib.hid hdv
        clear hu
        go_wp2_with (at_builtin; refine wpList_append_own2 rfl (.tmp 31) (.tmp 33) 32 rfl w.heap.size 3 i0 (.int .i64 0) 1 8 Try.underlying32 hi hz0 hz1 hz2 rfl (by decide) _ _ _ rfl (HO.out.alloc _) ⟨_, 0, none⟩ 1 1 [.int .i64 (a : Int)] rfl rfl ?ua ?ub ?uc ?ud ?ue ?_)
        case ua => exact new_at _ [.int .i64 (a : Int)] 3 _ (by simp)
        case ub => exact int_cells .i64 [(a : Int)]
        case uc => unfold maxLen; omega
        case ud => omega
        case ue => simp; omega
        intro v3 w3 own3 hg3 hm3
        have O3 := Lib.hid (IOwn.more own3 hnu.symm rfl)
        have B3 := Lib.hid ((HBE.out.alloc HBE.out.size (.cells #[.int .i64 (a : Int)] 3)).grown hg3 (by simp; omega) (fun k hk => by have := own_block_ge HO.out k hk; omega))
        have R3 := Lib.hid (H.out.below B3.out)
        have c0 := R3.out.box
        rw [HWL.out] at c0
        have c1 := R3.out.word F1.out
        obtain ⟨m1, m2⟩ := R3.out.lt
        clear own3 hg3 hm3 R1 HO HBE l1 l2
        go_wp2
        go_roundg rr.length
        case measure => exact hgg
        case rel => exact ⟨pre ++ [c], rr, F7.out, rfl, by first | (rw [← F6.out]; rfl) | (rw [HDV.out, ← F6.out]; rfl), by rw [HU.out]; exact O3.out, B3.out⟩
      | false =>
        rw [if_neg (by rw [hu]; decide)] at hmd HU
        rw [List.append_nil] at HU
        have HDV := Lib.hid hdv
        clear hu
        go_wp2
        go_roundg rr.length
        case measure => exact hgg
        case rel => exact ⟨pre ++ [c], rr, F7.out, rfl, by first | (rw [← F6.out]; rfl) | (rw [HDV.out, ← F6.out]; rfl), by rw [HU.out]; exact HO.out, HBE.out⟩
end Go.Proofs.Ytmgpimibnogcaaa
