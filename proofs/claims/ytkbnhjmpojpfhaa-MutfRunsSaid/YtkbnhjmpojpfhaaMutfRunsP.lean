/-
  PROVED: a text's runes are told one by one as all at once, and a text of ASCII without a 0 has itself for bytes (texts of more than 20000 bytes are passed by, as the statement says). No condition.
-/
import Derived.Test.YtkbnhjmpojpfhaaRows
import Derived.Test.YtkbnhjmpojpfhaaW13
import Derived.WalkKit
import Derived.ProofKit
import Derived.OpenShut
import Derived.ShutString
import Derived.ChangeOld
import Derived.Below
namespace Go.Proofs.Ytkbnhjmpojpfhaa.mutfRuns
open Go.ChangeShapes Go.WideShapes Go.ChangeAt Go.RowKit
open Go.ChangeMaps (open_string shut_string)
set_option linter.unusedVariables false      -- a walk need not use every 'w<i>' (that an integer argument fits its kind)

theorem own : ownKnob Try.prog.godebug = none := by kernel_rfl

theorem own_slice {w : World} {base : Nat} {v : Value} {l : List Nat} (h : w.ownsRow base 21 1 v l.length (rcells l)) :
    ∃ ao cap, v = .slice ao l.length cap ∧ (0 < l.length → ∃ g, ao = some ⟨g, 0, none⟩ ∧ g < w.heap.size ∧ ∀ j, j < l.length → w.cell? ⟨g, j, none⟩ = some (.int .i32 ((l.getD j 0 : Nat) : Int))) := by
  rcases h.2 with ⟨rfl, hn⟩ | ⟨g, cap, cur, rfl, hb, hgg, rest⟩
  · exact ⟨none, 0, by rw [hn], fun h0 => by omega⟩
  · refine ⟨_, cap, rfl, fun _ => ⟨g, rfl, (Array.getElem?_eq_some_iff.1 hgg).1, ?_⟩⟩
    intro j hj
    have := h.cells (g := g) rfl j (.int .i32 ((l[j] : Nat) : Int)) (by simp [rcells, hj])
    have e : (({ block := g, off := 0 } : Addr).add j) = ⟨g, j, none⟩ := by simp [Addr.add]; intro h0; exact h0.symm
    rw [e] at this
    rw [this]
    simp [hj]
theorem at_in (l : List UInt8) (k : Nat) (h : k < (runes l).length) : atR l (k : Int) = (runes l).getD k 0 ∧ atB l (k : Int) = true := by
  unfold atR atB
  rw [if_pos (by omega)]
  exact ⟨by simp, decide_eq_true (by omega)⟩
theorem at_out (l : List UInt8) (i : Int) (h : i < 0 ∨ ((runes l).length : Int) ≤ i) : atR l i = 0 ∧ atB l i = false := by
  unfold atR atB
  refine ⟨?_, decide_eq_false (by omega)⟩
  split
  · simp only [List.getD]
    rw [List.getElem?_eq_none (by omega)]
    rfl
  · rfl
def plainB (c : UInt8) : Bool := decide (0 < c.toNat) && decide (c.toNat < 128)
theorem plain_enc (l : List UInt8) : l.all plainB = true → encL l = l ∧ validL l = true := by
  induction l with
  | nil => intro _; exact ⟨rfl, rfl⟩
  | cons c l ih =>
    intro h
    rw [List.all_cons, Bool.and_eq_true] at h
    obtain ⟨h1, h2⟩ := h
    obtain ⟨i1, i2⟩ := ih h2
    unfold plainB at h1
    simp only [Bool.and_eq_true, decide_eq_true_eq] at h1
    have e0 : at0 (c :: l) 0 = c.toNat := rfl
    have hd : dec (c :: l) = (c.toNat, 1) := by
      unfold dec Lib.decodeN
      rw [e0, if_pos h1.2]
    have hne : (c :: l) ≠ [] := by simp
    constructor
    · unfold encL
      rw [runes_cons _ hne, hd]
      show (mb c.toNat ++ encL l) = _
      rw [i1]
      have : mb c.toNat = [c] := by
        unfold mb un unN
        rw [if_pos (by omega), if_pos (by omega)]
        simp [bs]
      rw [this]
      rfl
    · rw [validL_cons _ hne, hd]
      show (!bad (c.toNat, 1) && validL l) = true
      rw [i2]
      have : bad (c.toNat, 1) = false := by
        unfold bad
        refine decide_eq_false ?_
        intro h
        have := congrArg Prod.fst h
        simp only at this
        omega
      rw [this]
      rfl
theorem take_nextB (s : ByteArray) (k : Nat) (h : k < s.size) : (L s).take (k + 1) = (L s).take k ++ [s[k]'h] := by
  have h' : k < (L s).length := by rw [← size_L]; exact h
  rw [List.take_succ_eq_append_getElem h']
  rfl
theorem Encode_gen (s : ByteArray) (hl : s.size ≤ 1000000000000000000) : ∃ (x : ByteArray) (z : Int), (∀ W, Calls Try.prog 14 #[.string s] W fun e w' => e = .returned (.tuple #[.string x, .int .i64 z]) ∧ Below W.heap.size W w') ∧ x = ⟨(encA (L s)).toArray⟩ ∧ z = encE (L s) :=
  ⟨_, _, fun W => Encode_any s W hl, rfl, rfl⟩
set_option maxRecDepth 1000000 in
set_option maxHeartbeats 8000000 in
theorem walk (a0 : ByteArray) (a1 : Int) (w0 : a0.size ≤ maxLen) (w1 : (Lit.int .i64 a1).wf = true) (w : World) :
    Calls Try.prog 11 #[.string a0, .int .i64 a1] w fun e w' => e = .returned (.bool true) ∧ Below w.heap.size w w' := by
  by_cases hl : a0.size ≤ 20000
  · obtain ⟨x, z, HE0, hx, hz⟩ := Encode_gen a0 (by omega)
    have HE := fun W => Lib.hid (HE0 W)
    have HXZ := Lib.hid (show (L a0).all plainB = true → x = a0 ∧ z = 0 by
      intro h
      obtain ⟨p1, p2⟩ := plain_enc _ h
      have hlen : (encL (L a0)).length ≤ 65535 := by rw [p1, ← size_L]; omega
      constructor
      · rw [hx]
        unfold encA
        rw [if_pos ⟨p2, hlen⟩, p1]
      · rw [hz]
        unfold encE
        rw [if_pos p2, if_pos hlen])
    have HR := fun W => Lib.hid (Runes_any a0 W (by omega))
    have HL := fun W => Lib.hid (Len_any a0 W w0)
    have hrl := runes_length_le (L a0)
    rw [← size_L] at hrl
    have hb64 := bounds_i64 w1
    obtain ⟨hbl, hbh⟩ := hb64
    have HIN := Lib.hid (at_in (L a0))
    have HOUT := Lib.hid (at_out (L a0) a1)
    have HAT := fun (i : Int) (W : World) (hi : i ≤ 9223372036854775807) => Lib.hid (At_any a0 i W hi)
    clear w0 w1 hx hz HE0
    generalize runes (L a0) = rs at *
    go_enter Try.func11, Try.ntmps11
    go_wp2_with fail
    refine (shown_any _).mono ?_
    rintro e v1 ⟨rfl, hb1⟩
    have hs1 := hb1.size
    go_wp2_with fail
    refine (HR _).out.mono ?_
    rintro e v2 ⟨v, rfl, hown2, hb2⟩
    have hbR := hb1.trans (hb2.mono hs1)
    have hsR := hbR.size
    obtain ⟨ao, cap, rfl, hcells⟩ := own_slice hown2
    have HC := Lib.hid hcells
    clear hown2 hcells hb2
    go_wp2_with fail
    refine (HL _).out.mono ?_
    rintro e v3 ⟨rfl, p3, rfl⟩
    have hb3 : Below v2.heap.size v2 (v2.iter a0 p3) := (Below.refl _ _).alloc (Nat.le_refl _) _
    generalize v2.iter a0 p3 = v3 at *
    go_wp2
    go_loopw [7, 8, 9] (fun i _ _ wr => ∃ k : Nat, k ≤ rs.length ∧ k ≤ 200 ∧ i = .int .i64 k ∧ Below v2.heap.size v2 wr) (fun i _ _ _ => rs.length - (intOf i).toNat)
    case atStart => exact ⟨0, Nat.zero_le _, Nat.zero_le _, rfl, hb3⟩
    case round =>
      obtain ⟨k, hk, hk200, rfl, hbel⟩ := hrel
      have hB := hbR.trans (hbel.mono hsR)
      have hBs := hB.size
      by_cases hlt : k < rs.length ∧ k < 200
      · obtain ⟨hlt1, hlt2⟩ := hlt
        obtain ⟨g, rfl, hgl, hc⟩ := HC.out (by omega)
        have hcell0 := hc k hlt1
        obtain ⟨r, hrk⟩ : ∃ r, rs.getD k 0 = r := ⟨_, rfl⟩
        obtain ⟨hin1, hin2⟩ := HIN.out k hlt1
        rw [hrk] at hcell0 hin1
        have HA := HAT (k : Int) wr (by omega)
        rw [hin1, hin2] at HA
        clear hin1 hin2 hrk hc
        go_wp2_with fail
        refine HA.out.mono ?_
        rintro e v4 ⟨rfl, hb4⟩
        have hb4' := hbel.trans (hb4.mono hbel.size)
        have hcell : v4.cell? ⟨g, k, none⟩ = some (.int .i32 (r : Int)) := by
          rw [← hcell0]
          exact hb4'.cell (p := ⟨g, k, none⟩) hgl
        clear hcell0
        go_wp2
        go_roundw
        case rel => exact ⟨k + 1, by omega, by omega, by go_num, hb4'⟩
        case measure => simp [intOf]; omega
      · have hstop : (rs.length : Int) ≤ (k : Int) ∨ ((k : Int) < (rs.length : Int) ∧ (200 : Int) ≤ (k : Int)) := by omega
        clear hlt
        have HA := HAT a1 wr (by omega)
        have hcase : (a1 < 0 ∧ atR (L a0) a1 = 0 ∧ atB (L a0) a1 = false) ∨ (0 ≤ a1 ∧ (rs.length : Int) ≤ a1 ∧ atR (L a0) a1 = 0 ∧ atB (L a0) a1 = false) ∨ (0 ≤ a1 ∧ a1 < (rs.length : Int) ∧ atB (L a0) a1 = true) := by
          by_cases c1 : a1 < 0
          · exact .inl ⟨c1, HOUT.out (.inl c1)⟩
          by_cases c2 : (rs.length : Int) ≤ a1
          · exact .inr (.inl ⟨by omega, c2, HOUT.out (.inr c2)⟩)
          · refine .inr (.inr ⟨by omega, by omega, ?_⟩)
            have := (HIN.out a1.toNat (by omega)).2
            have e : ((a1.toNat : Nat) : Int) = a1 := by omega
            rwa [e] at this
        generalize atR (L a0) a1 = ra at *
        generalize atB (L a0) a1 = ba at *
        rcases hstop with hst | ⟨hst1, hst2⟩
        all_goals
          rcases hcase with ⟨c1, rfl, rfl⟩ | ⟨c1, c2, rfl, rfl⟩ | ⟨c1, c2, rfl⟩
          all_goals
              go_wp2_with fail
              refine HA.out.mono ?_
              rintro e v4 ⟨rfl, hb4⟩
              have hb4 := hB.trans (hb4.mono hBs)
              have hs4 := hb4.size
              go_wp2
              go_loopw [12, 13] (fun p i wr2 => ∃ (k2 : Nat) (pb : Bool), k2 ≤ a0.size ∧ i = .int .i64 k2 ∧ p = .bool pb ∧ pb = ((L a0).take k2).all plainB ∧ wr2 = v4) (fun _ i _ => a0.size - (intOf i).toNat)
              case atStart => exact ⟨0, true, Nat.zero_le _, rfl, rfl, by simp, rfl⟩
              case round =>
                obtain ⟨k2, pb, hk2, rfl, rfl, hpb, rfl⟩ := hrel
                have HPB := Lib.hid hpb
                clear hpb
                by_cases hlt2 : k2 < a0.size
                · have HTB := Lib.hid (take_nextB a0 k2 hlt2)
                  have hrl : ∀ q : Bool, q = plainB (a0[k2]'hlt2) → (pb && q) = ((L a0).take (k2 + 1)).all plainB := by
                    intro q hq
                    rw [HTB.out, List.all_append, ← HPB.out, hq]
                    simp
                  have HRL := Lib.hid hrl
                  clear hrl
                  cases pb with
                  | false =>
                    have hh := Lib.hid (HRL.out _ rfl)
                    go_wp2
                    go_roundw
                    case rel => exact ⟨k2 + 1, false, by omega, by go_num, rfl, by have := hh.out; simpa using this, trivial⟩
                    case measure => simp [intOf]; omega
                  | true =>
                    by_cases p1 : 0 < (a0[k2]'hlt2).toNat
                    · by_cases p2 : (a0[k2]'hlt2).toNat < 128
                      · have hh := Lib.hid (HRL.out true (by unfold plainB; rw [decide_eq_true p1, decide_eq_true p2]; rfl))
                        go_wp2
                        go_roundw
                        case rel => exact ⟨k2 + 1, true, by omega, by go_num, by first | rfl | (simp; omega), by have := hh.out; simpa using this, trivial⟩
                        case measure => simp [intOf]; omega
                      · have hh := Lib.hid (HRL.out false (by unfold plainB; rw [decide_eq_false p2, Bool.and_false]))
                        go_wp2
                        go_roundw
                        case rel => exact ⟨k2 + 1, false, by omega, by go_num, by first | rfl | (simp; omega), by have := hh.out; simpa using this, trivial⟩
                        case measure => simp [intOf]; omega
                    · have hh := Lib.hid (HRL.out false (by unfold plainB; rw [decide_eq_false p1, Bool.false_and]))
                      go_wp2
                      go_roundw
                      case rel => exact ⟨k2 + 1, false, by omega, by go_num, by first | rfl | (simp; omega), by have := hh.out; simpa using this, trivial⟩
                      case measure => simp [intOf]; omega
                · have hfull := Lib.hid (show pb = (L a0).all plainB by
                    have := HPB.out
                    rwa [List.take_of_length_le (by rw [← size_L]; omega)] at this)
                  go_wp2_with fail
                  refine (HE _).out.mono ?_
                  rintro e v5 ⟨rfl, hb5⟩
                  have hb5 := hb4.trans (hb5.mono hs4)
                  cases pb with
                  | false =>
                    go_wp2
                    go_ret
                    exact ⟨rfl, hb5⟩
                  | true =>
                    obtain ⟨hx, hz⟩ := HXZ.out hfull.out.symm
                    rw [hx, hz]
                    clear hx hz
                    go_wp2
                    go_ret
                    exact ⟨rfl, hb5⟩
  · go_enter Try.func11, Try.ntmps11
    go_wp2_with fail
    refine (shown_any _).mono ?_
    rintro e v1 ⟨rfl, hb1⟩
    have hs1 := hb1.size
    go_wp2
    go_ret
    exact ⟨rfl, hb1⟩

set_option maxRecDepth 100000 in
theorem lifted (os : Os) (started : os.Started) (H : Type) (enc : TypeId × Value → H) :
    ReturnsInHanded {} Try.checked os 11 .any (Rows.mutfRunsSpec.pre6 enc Try.prog Try.f11 Rows.mutfRunsRow.domain false) (Rows.mutfRunsSpec.post enc Try.prog Try.f11 false true false false) := by
  refine returnsInHanded_of_change (C := Try.checked) own started (by kernel_rfl) Try.func11
    (ChangeSpec.witness6 (enc := enc) (C := Try.checked) false ⟨#[], #[.string ByteArray.empty, .int .i64 0], []⟩ 8 (by kernel_rfl) (by kernel_rfl) (by kernel_rfl) (by kernel_rfl)) ?_
  intro W base args ds gs before hval0 hW hcnd _
  have hval : ∀ (j : Nat) t v, Try.f11.params[j]? = some t → args[j]? = some v → Value.okWide Try.prog W .any base t v := hval0
  have hW' := hW
  obtain ⟨p, q, hA0, hV, rfl, hfz, hnd⟩ := hW
  have hA : DataW.TrodAll enc Try.prog W 0 (fun _ => true) true Try.f11.params.toList args.toList ds p := hA0
  rw [Try.params11] at hA hval
  obtain ⟨v0, vs0, d0, ds0, p0, q0, hargs, rfl, rfl, h0, r0⟩ := trodAll_cons hA
  obtain ⟨v1, vs1, d1, ds1, p1, q1, rfl, rfl, rfl, h1, r1⟩ := trodAll_cons r0
  obtain ⟨rfl, rfl, rfl⟩ := trodAll_nil r1
  obtain rfl : args = #[v0, v1] := by cases args; simp_all
  obtain ⟨rfl, rfl⟩ := trodVars_none hV
  obtain ⟨a0, rfl, rfl, rfl, w0⟩ := open_string Try.underlying9 (hval 0 9 v0 rfl rfl) h0
  obtain ⟨a1, rfl, rfl, rfl, w1⟩ := open_int Try.underlying3 (hval 1 3 v1 rfl rfl) h1
  clear hA0 hval0
  simp only [List.append_nil] at hW'
  refine (walk a0 a1 w0 w1 W).mono fun e W' ⟨he, bel⟩ => ?_
  subst he
  exact ⟨_, rfl, _, _, _, [], [], [], hW', trodAll_mk1 (shut_bool Try.underlying4 _), (trodAll_cons_mk (shut_string Try.underlying9 w0) (trodAll_cons_mk (shut_int Try.underlying3 w1) trodAll_mk0)), rfl, bel.frame _, fun h => by cases h⟩

theorem over : Rows.mutfRunsRow.holds Try.pinned (OpenSpec.ofChange Rows.mutfRunsSpec) :=
  OpenClaim.holds_of_wide 11 Try.f11 rfl rfl rfl rfl rfl rfl rfl ⟨rfl, rfl, rfl, rfl, rfl⟩ rfl rfl rfl rfl rfl (by kernel_rfl) Try.func11 (by kernel_rfl)
    (of_decide_eq_true (by kernel_rfl)) (by unfold Func.isWrapper; first | (rw [if_pos (by decide +kernel)]; kernel_rfl) | (rw [if_neg (by decide +kernel)]; exact ⟨rfl, rfl⟩))
    (fun os started H enc _ => lifted os started H enc)

theorem proved : Rows.MutfRunsSaid :=
  over
end Go.Proofs.Ytkbnhjmpojpfhaa.mutfRuns
