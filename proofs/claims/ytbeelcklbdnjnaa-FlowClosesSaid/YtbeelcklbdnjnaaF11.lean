/-
  THE LAW FlowPlain.
-/
import Derived.Test.YtbeelcklbdnjnaaF10
import Derived.Deep.DeepCutAuto
set_option linter.unusedVariables false
set_option linter.unusedSimpArgs false
namespace Go.Proofs.Ytbeelcklbdnjnaa
open Go.RowKit

/-- No instruction ahead of the i-th ends. -/
def onB (l : List In) (i : Nat) : Bool := (l.take i).all fun x => !endsP x.op
theorem onB_succ {l : List In} {i : Nat} {x : In} (hx : l[i]? = some x) : onB l (i + 1) = (onB l i && !endsP x.op) := by
  obtain ⟨hk, rfl⟩ := List.getElem?_eq_some_iff.1 hx
  unfold onB
  rw [List.take_succ_eq_append_getElem hk, List.all_append]
  simp
theorem plain_nxt {l : List In} {i : Nat} {x : In} (hx : l[i]? = some x) (hto : x.to = []) (j : Int) : j ∈ nxtP l [] i ↔ endsP x.op = false ∧ i + 1 < l.length ∧ j = ((i + 1 : Nat) : Int) := by
  rw [nxtP_eq hx, List.mem_append, mem_sucP, mem_first]
  simp [hto, covP, covN]
theorem nxtP_out {l : List In} {hs : List Hd} {i : Nat} (h : l.length ≤ i) : nxtP l hs i = [] := by
  unfold nxtP nxt
  have h1 : (succL l).getD i [] = [] := by rw [List.getD_eq_getElem?_getD, List.getElem?_eq_none (by rw [succL_len]; exact h)]; rfl
  have h2 : (covL l hs).getD i [] = [] := by rw [List.getD_eq_getElem?_getD, List.getElem?_eq_none (by simp [covL]; exact h)]; rfl
  rw [h1, h2]
  rfl
theorem plain_reach {l : List In} (hto : ∀ x ∈ l, x.to = []) {i : Nat} (hi : i < l.length) : Rch (nxtP l []) i ↔ onB l i = true := by
  constructor
  · intro r
    induction r with
    | zero => simp [onB]
    | @step i j h hj ih =>
      by_cases hil : i < l.length
      · have hx := List.getElem?_eq_getElem hil
        generalize l[i] = x at hx
        obtain ⟨h1, h2, h3⟩ := (plain_nxt hx (hto x (List.mem_of_getElem? hx)) j).1 hj
        subst h3
        rw [Int.toNat_natCast, onB_succ hx, ih hil, h1]
        rfl
      · rw [nxtP_out (by omega)] at hj
        cases hj
  · intro h
    induction i with
    | zero => exact .zero
    | succ i ih =>
      have hil : i < l.length := by omega
      have hx := List.getElem?_eq_getElem hil
      generalize l[i] = x at hx
      rw [onB_succ hx, Bool.and_eq_true] at h
      have := Rch.step (N := nxtP l []) (ih hil h.1) ((plain_nxt hx (hto x (List.mem_of_getElem? hx)) _).2 ⟨by simpa using h.2, hi, rfl⟩)
      simpa using this
theorem HRow.none (B : Nat) (w : World) : HRow B w (.slice Option.none 0 0) [] := ⟨_, _, rfl, Nat.le_refl _, by unfold maxLen; simp, by simp, fun h => absurd h (by simp)⟩
set_option maxRecDepth 1000000 in
set_option maxHeartbeats 6400000 in
theorem plain_walk (s : ByteArray) (w : World) :
    Calls Try.prog 6 #[.string s] w fun e w' => e = .returned (.bool true) ∧ Below w.heap.size w w' := by
  have HDR := fun W => Lib.hid (refDecode_any s W)
  have HORD := Lib.hid (@ord_of (L s))
  have hsz : (s.size : Int) = ((L s).length : Int) := by rw [size_L]
  have HSZ := Lib.hid (size_L s)
  obtain ⟨f, hf⟩ : ∃ f, decE (L s) = f := ⟨_, rfl⟩
  obtain ⟨l, hl⟩ : ∃ l, decL (L s) = l := ⟨_, rfl⟩
  rw [hf, hl] at HDR
  rw [hf, hl, ← HSZ.out] at HORD
  clear hf hl hsz HSZ
  go_enter Try.func6, Try.ntmps6
  go_wp2_with fail
  refine (shown_any _).mono ?_
  rintro e w1 ⟨rfl, hb⟩
  have B1 := Lib.hid hb
  clear hb
  go_wp2_with fail
  refine (HDR _).out.mono ?_
  rintro e w2 ⟨v, rfl, ho, hb⟩
  have hz2 := hb.size
  have B2 := Lib.hid (Below.link B1.out hb)
  have R2 := Lib.hid ho.row
  obtain ⟨A, c, rfl⟩ := ho.form
  clear ho hb HDR
  by_cases h0 : f = 0
  · subst h0
    obtain ⟨ho1, ho2, ho3⟩ := HORD.out rfl
    have HO := Lib.hid ho1
    have hl0 : 0 < l.length := List.length_pos_iff.2 ho1.ne
    clear HORD ho1
    by_cases h6 : l.length ≤ 600
    · go_wp2
      go_loopw [6] (fun i wr => ∃ k : Nat, k ≤ l.length ∧ i = .int .i64 k ∧ (∀ (j : Nat) (y : In), j < k → l[j]? = some y → y.to = []) ∧ wr = w2) (fun i _ => l.length - (intOf i).toNat)
      case atStart => exact ⟨0, Nat.zero_le _, rfl, fun j y hj => by omega, rfl⟩
      case round =>
        obtain ⟨k, hk, rfl, hto, rfl⟩ := hrel
        have HTO := Lib.hid hto
        clear hto
        by_cases hlt : k < l.length
        · have hx := List.getElem?_eq_getElem hlt
          generalize l[k] = x at hx
          obtain ⟨b, o, Ak, ck, At, ct, rfl, hbB, _, hto, c0, c1, c2, c3, c4⟩ := R2.out.at_ hx
          have HX := Lib.hid hx
          clear hx hto
          by_cases hp : x.to.length = 0
          · have hp2 : x.to = [] := List.eq_nil_of_length_eq_zero hp
            have HP2 := Lib.hid hp2
            rw [hp] at c4
            clear hp hp2
            go_wp2
            go_roundw
            case rel =>
              refine ⟨k + 1, by omega, by go_num, fun j y hj hy => ?_, by first | rfl | trivial⟩
              rcases Nat.lt_or_eq_of_le (Nat.le_of_lt_succ hj) with h | rfl
              · exact HTO.out j y h hy
              · rw [HX.out] at hy; cases hy; exact HP2.out
            case measure => simp [intOf]; omega
          · have hp2 : 0 < x.to.length := by omega
            clear hp
            go_wp2
            go_ret
            exact ⟨rfl, B2.out⟩
        · obtain rfl : k = l.length := by omega
          have HTT := Lib.hid (show ∀ x ∈ l, x.to = [] from fun x hx => by
            obtain ⟨j, hj⟩ := List.mem_iff_getElem?.1 hx
            exact HTO.out j x (List.getElem?_eq_some_iff.1 hj).1 hj)
          have HRE := Lib.hid (reach_any wr.heap.size s.size l [] _ (.slice none 0 0) wr R2.out (HRow.none _ _) (Nat.le_refl _) HO.out (by omega) (by omega) (by simp) (fun h hh => by cases hh))
          have e0 : covE l (s.size : Int) [] = 0 := by unfold covE; simp
          rw [e0] at HRE
          have HE0 := Lib.hid e0
          clear e0 HTO
          go_wp2_with fail
          refine HRE.out.mono ?_
          rintro e w3 ⟨u, rb, rfl, hrow, hre, hb3⟩
          have hz3 := hb3.size
          have hir := hre.1 HE0.out
          have HIR := Lib.hid hir
          have hrl := hir.1
          obtain ⟨ar, cr, rfl⟩ := own_form hrow
          have RB := Lib.hid (show BRow w3.heap.size w3 _ rb from Row.of_own hrow)
          have B3 := Lib.hid (Below.link B2.out hb3)
          have R3 := Lib.hid (R2.out.below hb3 (Nat.le_refl _))
          rw [hrl] at RB ⊢
          clear hrow hre hb3 hir hrl HRE
          go_wp2
          go_loopw [9, 10] (fun on i wx => ∃ k : Nat, k ≤ l.length ∧ i = .int .i64 k ∧ on = .bool (onB l k) ∧ wx = w3) (fun _ i _ => l.length - (intOf i).toNat)
          case atStart => exact ⟨0, Nat.zero_le _, rfl, rfl, rfl⟩
          case round =>
            obtain ⟨k, hk, rfl, rfl, rfl⟩ := hrel
            by_cases hlt2 : k < l.length
            · have hx := List.getElem?_eq_getElem hlt2
              generalize l[k] = x at hx
              obtain ⟨b, o, Ak, ck, At, ct, rfl, hbB, _, hto, c0, c1, c2, c3, c4⟩ := R3.out.at_ hx
              have hr : rb[k]? = some (onB l k) := by
                have h1 := HIR.out.2 k hlt2
                rw [plain_reach HTT.out hlt2] at h1
                have h2 := List.getElem?_eq_getElem (show k < rb.length by rw [HIR.out.1]; exact hlt2)
                rw [h2] at h1 ⊢
                simp only [Option.some.injEq] at h1 ⊢
                cases q1 : rb[k]'_ <;> cases q2 : onB l k <;> simp_all
              obtain ⟨b2, o2, rfl, hb2B, cr0⟩ := RB.out.at_ hr
              have HON := Lib.hid (onB_succ hx)
              have HEND := fun W => refEnds_any x.op W
              obtain ⟨q, hq⟩ : ∃ q, endsP x.op = q := ⟨_, rfl⟩
              rw [hq] at HON HEND
              obtain ⟨on, hon⟩ : ∃ q, onB l k = q := ⟨_, rfl⟩
              rw [hon] at HON cr0
              rw [hon]
              have hbw : b < wr.heap.size := by omega
              clear hx hto hr hq hon
              cases on <;> cases q <;>
              · go_wp2_with (first | (go_at_call 23; refine (HEND _).mono ?_; rintro e wi ⟨rfl, rfl⟩))
                go_roundw
                case rel => exact ⟨k + 1, by omega, by go_num, by rw [HON.out]; rfl, by first | rfl | trivial⟩
                case measure => simp [intOf]; omega
            · go_wp2
              go_ret
              exact ⟨rfl, B3.out⟩
    · have h7 : 600 < l.length := by omega
      clear h6
      go_wp2
      go_ret
      exact ⟨rfl, B2.out⟩
  · have e1 : (f != 0) = true := by simpa using h0
    clear h0 HORD
    go_wp2
    go_ret
    exact ⟨rfl, B2.out⟩
end Go.Proofs.Ytbeelcklbdnjnaa
