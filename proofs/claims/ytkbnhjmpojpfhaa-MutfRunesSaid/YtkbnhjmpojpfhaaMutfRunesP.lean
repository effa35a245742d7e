/-
  PROVED: a text has the runes that the document's own answer tells, one by one, and At tells each of them, or none (texts of more than 20000 bytes are passed by, as the statement says). No condition.
-/
import Derived.Test.YtkbnhjmpojpfhaaRows
import Derived.Test.YtkbnhjmpojpfhaaW13
import Derived.Test.YtkbnhjmpojpfhaaW10
import Derived.WalkKit
import Derived.ProofKit
import Derived.OpenShut
import Derived.ShutString
import Derived.ChangeOld
import Derived.Below
import Derived.Deep.QuietTactic
import Derived.BigQuiet
namespace Go.Proofs.Ytkbnhjmpojpfhaa.mutfRunes
open Go.ChangeShapes Go.WideShapes Go.ChangeAt Go.RowKit
open Go.ChangeMaps (open_string shut_string)
set_option linter.unusedVariables false      -- a walk need not use every 'w<i>' (that an integer argument fits its kind)

theorem own : ownKnob Try.prog.godebug = none := by kernel_rfl

theorem own_slice {w : World} {base : Nat} {v : Value} {l : List Nat} (h : w.ownsRow base 21 1 v l.length (rcells l)) :
    ∃ ao cap, v = .slice ao l.length cap ∧ (0 < l.length → ∃ g, ao = some ⟨g, 0, none⟩ ∧ g < w.heap.size ∧ ∀ j, j < l.length → w.cell? ⟨g, j, none⟩ = some (.int .i32 ((l.getD j 0 : Nat) : Int))) := by
  rcases h.2 with ⟨rfl, hn⟩ | ⟨g, cap, cur, rfl, hb, hgg, rest⟩
  · exact ⟨none, 0, by rw [hn], fun h0 => by omega⟩
  · refine ⟨_, cap, rfl, fun _ => ⟨g, rfl, (Array.getElem?_eq_some_iff.1 hgg).1, ?_⟩⟩
    intro j hj
    have := h.cells (g := g) rfl j (.int .i32 ((l[j] : Nat) : Int)) (by simp [rcells, hj])
    have e : (({ block := g, off := 0 } : Addr).add j) = ⟨g, j, none⟩ := by simp [Addr.add]; intro h0; exact h0.symm
    rw [e] at this
    rw [this]
    simp [hj]
theorem at_in (l : List UInt8) (k : Nat) (h : k < (runes l).length) : atR l (k : Int) = (runes l).getD k 0 ∧ atB l (k : Int) = true := by
  unfold atR atB
  rw [if_pos (by omega)]
  exact ⟨by simp, decide_eq_true (by omega)⟩
theorem at_out (l : List UInt8) (i : Int) (h : i < 0 ∨ ((runes l).length : Int) ≤ i) : atR l i = 0 ∧ atB l i = false := by
  unfold atR atB
  refine ⟨?_, decide_eq_false (by omega)⟩
  split
  · simp only [List.getD]
    rw [List.getElem?_eq_none (by omega)]
    rfl
  · rfl
theorem own_sliceI {w : World} {base : Nat} {v : Value} {l : List Nat} (h : w.ownsRow base 3 1 v (ints l).length (icells (ints l))) :
    ∃ ao cap, v = .slice ao l.length cap ∧ (0 < l.length → ∃ g, ao = some ⟨g, 0, none⟩ ∧ g < w.heap.size ∧ ∀ j, j < l.length → w.cell? ⟨g, j, none⟩ = some (.int .i64 ((l.getD j 0 : Nat) : Int))) := by
  rw [ints_length] at h
  rcases h.2 with ⟨rfl, hn⟩ | ⟨g, cap, cur, rfl, hb, hgg, rest⟩
  · exact ⟨none, 0, by rw [hn], fun h0 => by omega⟩
  · refine ⟨_, cap, rfl, fun _ => ⟨g, rfl, (Array.getElem?_eq_some_iff.1 hgg).1, ?_⟩⟩
    intro j hj
    have := h.cells (g := g) rfl j (.int .i64 ((l[j] : Nat) : Int)) (by simp [icells, ints, hj])
    have e : (({ block := g, off := 0 } : Addr).add j) = ⟨g, j, none⟩ := by simp [Addr.add]; intro h0; exact h0.symm
    rw [e] at this
    rw [this]
    simp [hj]
set_option maxRecDepth 1000000 in
set_option maxHeartbeats 8000000 in
theorem walk (a0 : ByteArray) (a1 : Int) (w0 : a0.size ≤ maxLen) (w1 : (Lit.int .i64 a1).wf = true) (w : World) :
    Calls Try.prog 5 #[.string a0, .int .i64 a1] w fun e w' => e = .returned (.bool true) ∧ Below w.heap.size w w' := by
  by_cases hl : a0.size ≤ 20000
  · have HQ := fun W => Lib.hid (refRunes_any a0 W (by omega))
    have HR := fun W => Lib.hid (Runes_any a0 W (by omega))
    have HL := fun W => Lib.hid (Len_any a0 W w0)
    have hrl := runes_length_le (L a0)
    rw [← size_L] at hrl
    obtain ⟨hbl, hbh⟩ := bounds_i64 w1
    have HIN := Lib.hid (at_in (L a0))
    have HOUT := Lib.hid (at_out (L a0) a1)
    have HAT := fun (W : World) => Lib.hid (At_any a0 a1 W hbh)
    have HSC := Lib.hid (runes_scal (L a0))
    clear w0 w1
    generalize runes (L a0) = rs at *
    generalize validL (L a0) = vb at *
    go_enter Try.func5, Try.ntmps5
    go_wp2_with fail
    refine (shown_any _).mono ?_
    rintro e v1 ⟨rfl, hb1⟩
    have hs1 := hb1.size
    go_wp2_with fail
    refine (HQ _).out.mono ?_
    rintro e v2 ⟨vl, rfl, hown2, hb2⟩
    have hbR := hb1.trans (hb2.mono hs1)
    have hsR := hbR.size
    obtain ⟨al, cl, rfl, hcl⟩ := own_sliceI hown2
    have HCL := Lib.hid hcl
    clear hown2 hcl hb2
    go_wp2_with fail
    refine (HR _).out.mono ?_
    rintro e v3 ⟨vm, rfl, hown3, hb3⟩
    have hs23 := hb3.size
    obtain ⟨am, cm, rfl, hcm⟩ := own_slice hown3
    have HCM := Lib.hid hcm
    have hbS := hbR.trans (hb3.mono hsR)
    have hsS := hbS.size
    clear hown3 hcm
    go_wp2_with fail
    refine (HL _).out.mono ?_
    rintro e v4 ⟨rfl, p3, rfl⟩
    have hb4 : Below v3.heap.size v3 (v3.iter a0 p3) := (Below.refl _ _).alloc (Nat.le_refl _) _
    generalize v3.iter a0 p3 = v4 at *
    go_wp2
    go_loopw [9] (fun i wr => ∃ k : Nat, k ≤ rs.length ∧ i = .int .i64 k ∧ Below v3.heap.size v3 wr) (fun i _ => rs.length - (intOf i).toNat)
    case atStart => exact ⟨0, Nat.zero_le _, rfl, hb4⟩
    case round =>
      obtain ⟨k, hk, rfl, hbel⟩ := hrel
      have hB := hbS.trans (hbel.mono hsS)
      have hBs := hB.size
      by_cases hlt : k < rs.length
      · obtain ⟨gl, rfl, hgl, hc1⟩ := HCL.out (by omega)
        obtain ⟨gm, rfl, hgm, hc2⟩ := HCM.out (by omega)
        have hcell1 := hc1 k hlt
        have hcell2 := hc2 k hlt
        have hcellm : wr.cell? ⟨gm, k, none⟩ = some (.int .i32 ((rs.getD k 0 : Nat) : Int)) := by
          rw [← hcell2]
          exact hbel.cell (p := ⟨gm, k, none⟩) hgm
        have hcelll : wr.cell? ⟨gl, k, none⟩ = some (.int .i64 ((rs.getD k 0 : Nat) : Int)) := by
          rw [← hcell1, ← hb3.cell (p := ⟨gl, k, none⟩) hgl]
          exact hbel.cell (p := ⟨gl, k, none⟩) (by show gl < _; omega)
        have hrk : rs.getD k 0 ≤ 1114111 := by
          have hm : rs.getD k 0 ∈ rs := by
            simp only [List.getD, List.getElem?_eq_getElem hlt, Option.getD_some]
            exact List.getElem_mem hlt
          have := HSC.out _ hm
          unfold Scal at this
          omega
        generalize rs.getD k 0 = r at *
        clear hc1 hc2 hcell1 hcell2
        have hki : (k : Int) < (rs.length : Int) := by omega
        go_wp2
        go_quiet (fail)
        go_wp2
        go_roundw
        case rel => exact ⟨k + 1, by omega, by go_num, below_drewN hbel _⟩
        case measure => simp [intOf]; omega
      · have hcase : (a1 < 0 ∧ atR (L a0) a1 = 0 ∧ atB (L a0) a1 = false) ∨ (0 ≤ a1 ∧ (rs.length : Int) ≤ a1 ∧ atR (L a0) a1 = 0 ∧ atB (L a0) a1 = false) ∨ (0 ≤ a1 ∧ a1 < (rs.length : Int) ∧ atR (L a0) a1 = rs.getD a1.toNat 0 ∧ atB (L a0) a1 = true) := by
          by_cases c1 : a1 < 0
          · exact .inl ⟨c1, HOUT.out (.inl c1)⟩
          by_cases c2 : (rs.length : Int) ≤ a1
          · exact .inr (.inl ⟨by omega, c2, HOUT.out (.inr c2)⟩)
          · refine .inr (.inr ⟨by omega, by omega, ?_⟩)
            have := HIN.out a1.toNat (by omega)
            have e : ((a1.toNat : Nat) : Int) = a1 := by omega
            rwa [e] at this
        have HA := HAT wr
        clear HAT
        rcases hcase with ⟨c1, e1, e2⟩ | ⟨c1, c2, e1, e2⟩ | ⟨c1, c2, e1, e2⟩
        · rw [e1, e2] at HA
          clear e1 e2
          go_wp2_with fail
          refine HA.out.mono ?_
          rintro e v5 ⟨rfl, hb5⟩
          have hb5 := hB.trans (hb5.mono hBs)
          go_wp2
          go_ret
          exact ⟨rfl, hb5⟩
        · rw [e1, e2] at HA
          clear e1 e2
          go_wp2_with fail
          refine HA.out.mono ?_
          rintro e v5 ⟨rfl, hb5⟩
          have hb5 := hB.trans (hb5.mono hBs)
          go_wp2
          go_ret
          exact ⟨rfl, hb5⟩
        · obtain ⟨q, rfl⟩ := Int.eq_ofNat_of_zero_le c1
          rw [e1, e2] at HA
          have hq : q < rs.length := by omega
          obtain ⟨gl, rfl, hgl, hc1⟩ := HCL.out (by omega)
          have hcell1 := hc1 q hq
          have eq1 : ((q : Nat) : Int).toNat = q := by omega
          rw [eq1] at HA
          have hrk : rs.getD q 0 ≤ 1114111 := by
            have hm : rs.getD q 0 ∈ rs := by
              simp only [List.getD, List.getElem?_eq_getElem hq, Option.getD_some]
              exact List.getElem_mem hq
            have := HSC.out _ hm
            unfold Scal at this
            omega
          clear e1 e2 hc1 eq1
          generalize rs.getD q 0 = r at *
          go_wp2_with fail
          refine HA.out.mono ?_
          rintro e v5 ⟨rfl, hb5⟩
          have hcelll : v5.cell? ⟨gl, q, none⟩ = some (.int .i64 (r : Int)) := by
            rw [← hcell1, ← hb3.cell (p := ⟨gl, q, none⟩) hgl, ← hbel.cell (p := ⟨gl, q, none⟩) (by show gl < _; omega)]
            have hw3 := hbel.size
            exact hb5.cell (p := ⟨gl, q, none⟩) (by show gl < _; omega)
          have hb5 := hB.trans (hb5.mono hBs)
          clear hcell1
          go_wp2
          go_ret
          exact ⟨rfl, hb5⟩
  · go_enter Try.func5, Try.ntmps5
    go_wp2_with fail
    refine (shown_any _).mono ?_
    rintro e v1 ⟨rfl, hb1⟩
    have hs1 := hb1.size
    go_wp2
    go_ret
    exact ⟨rfl, hb1⟩

set_option maxRecDepth 100000 in
theorem lifted (os : Os) (started : os.Started) (H : Type) (enc : TypeId × Value → H) :
    ReturnsInHanded {} Try.checked os 5 .any (Rows.mutfRunesSpec.pre6 enc Try.prog Try.f5 Rows.mutfRunesRow.domain false) (Rows.mutfRunesSpec.post enc Try.prog Try.f5 false true false false) := by
  refine returnsInHanded_of_change (C := Try.checked) own started (by kernel_rfl) Try.func5
    (ChangeSpec.witness6 (enc := enc) (C := Try.checked) false ⟨#[], #[.string ByteArray.empty, .int .i64 0], []⟩ 8 (by kernel_rfl) (by kernel_rfl) (by kernel_rfl) (by kernel_rfl)) ?_
  intro W base args ds gs before hval0 hW hcnd _
  have hval : ∀ (j : Nat) t v, Try.f5.params[j]? = some t → args[j]? = some v → Value.okWide Try.prog W .any base t v := hval0
  have hW' := hW
  obtain ⟨p, q, hA0, hV, rfl, hfz, hnd⟩ := hW
  have hA : DataW.TrodAll enc Try.prog W 0 (fun _ => true) true Try.f5.params.toList args.toList ds p := hA0
  rw [Try.params5] at hA hval
  obtain ⟨v0, vs0, d0, ds0, p0, q0, hargs, rfl, rfl, h0, r0⟩ := trodAll_cons hA
  obtain ⟨v1, vs1, d1, ds1, p1, q1, rfl, rfl, rfl, h1, r1⟩ := trodAll_cons r0
  obtain ⟨rfl, rfl, rfl⟩ := trodAll_nil r1
  obtain rfl : args = #[v0, v1] := by cases args; simp_all
  obtain ⟨rfl, rfl⟩ := trodVars_none hV
  obtain ⟨a0, rfl, rfl, rfl, w0⟩ := open_string Try.underlying9 (hval 0 9 v0 rfl rfl) h0
  obtain ⟨a1, rfl, rfl, rfl, w1⟩ := open_int Try.underlying3 (hval 1 3 v1 rfl rfl) h1
  clear hA0 hval0
  simp only [List.append_nil] at hW'
  refine (walk a0 a1 w0 w1 W).mono fun e W' ⟨he, bel⟩ => ?_
  subst he
  exact ⟨_, rfl, _, _, _, [], [], [], hW', trodAll_mk1 (shut_bool Try.underlying4 _), (trodAll_cons_mk (shut_string Try.underlying9 w0) (trodAll_cons_mk (shut_int Try.underlying3 w1) trodAll_mk0)), rfl, bel.frame _, fun h => by cases h⟩

theorem over : Rows.mutfRunesRow.holds Try.pinned (OpenSpec.ofChange Rows.mutfRunesSpec) :=
  OpenClaim.holds_of_wide 5 Try.f5 rfl rfl rfl rfl rfl rfl rfl ⟨rfl, rfl, rfl, rfl, rfl⟩ rfl rfl rfl rfl rfl (by kernel_rfl) Try.func5 (by kernel_rfl)
    (of_decide_eq_true (by kernel_rfl)) (by unfold Func.isWrapper; first | (rw [if_pos (by decide +kernel)]; kernel_rfl) | (rw [if_neg (by decide +kernel)]; exact ⟨rfl, rfl⟩))
    (fun os started H enc _ => lifted os started H enc)

theorem proved : Rows.MutfRunesSaid :=
  over
end Go.Proofs.Ytkbnhjmpojpfhaa.mutfRunes
