/-
  PROVED: any two texts: what Encode writes is read by Decode as it was and has no byte 0, Make of Runes is the text, and two texts have the same bytes just if they are the same; a text that is refused is refused for its form (texts of more than 20000 bytes are passed by, as the statement says). No condition.
-/
import Derived.Test.YtkbnhjmpojpfhaaRows
import Derived.Test.YtkbnhjmpojpfhaaW13
import Derived.WalkKit
import Derived.ProofKit
import Derived.OpenShut
import Derived.ShutString
import Derived.ChangeOld
import Derived.Below
namespace Go.Proofs.Ytkbnhjmpojpfhaa.mutfBack
open Go.ChangeShapes Go.WideShapes Go.ChangeAt Go.RowKit
open Go.ChangeMaps (open_string shut_string)
set_option linter.unusedVariables false      -- a walk need not use every 'w<i>' (that an integer argument fits its kind)

theorem own : ownKnob Try.prog.godebug = none := by kernel_rfl

theorem enc_val (l : List UInt8) (h : validL l = true) (hl : l.length ≤ 20000) : encA l = encL l ∧ encE l = 0 ∧ (encL l).length ≤ 40000 := by
  have h2 := encL_le l h
  have h3 : (encL l).length ≤ 40000 := by omega
  refine ⟨?_, ?_, h3⟩
  · unfold encA; rw [if_pos ⟨h, by omega⟩]
  · unfold encE; rw [if_pos h, if_pos (by omega)]
theorem enc_inv (l : List UInt8) (h : validL l = false) : encA l = [] ∧ encE l = 4 := by
  constructor
  · unfold encA; rw [if_neg (fun hh => by rw [h] at hh; simp at hh)]
  · unfold encE; simp [h]
theorem Encode_val (s : ByteArray) (x : ByteArray) (W : World) (hx : x = ⟨(encL (L s)).toArray⟩) (h : validL (L s) = true) (hl : s.size ≤ 20000) :
    Calls Try.prog 14 #[.string s] W fun e w' => e = .returned (.tuple #[.string x, .int .i64 0]) ∧ Below W.heap.size W w' := by
  have := Encode_any s W (by omega)
  obtain ⟨h1, h2, _⟩ := enc_val (L s) h (by rw [← size_L]; exact hl)
  rw [h1, h2] at this
  rw [hx]
  exact this
theorem Encode_inv (s : ByteArray) (W : World) (h : validL (L s) = false) (hl : s.size ≤ 20000) :
    Calls Try.prog 14 #[.string s] W fun e w' => e = .returned (.tuple #[.string ⟨#[]⟩, .int .i64 4]) ∧ Below W.heap.size W w' := by
  have := Encode_any s W (by omega)
  obtain ⟨h1, h2⟩ := enc_inv (L s) h
  rw [h1, h2] at this
  exact this
theorem dec_of_enc (l : List UInt8) (h : validL l = true) (hl : (encL l).length ≤ 65535) : decA (encL l) = l ∧ decE (encL l) = 0 := by
  unfold decA decE
  rw [if_pos hl, if_pos hl, mruns_enc]
  exact ⟨valid_u8 l h, rfl⟩
theorem runes_all (l : List UInt8) : ((runes l).map fun (r : Nat) => (r : Int)).all scalB = true := by
  rw [List.all_eq_true]
  intro x hx
  obtain ⟨r, hr, rfl⟩ := List.mem_map.1 hx
  rw [scalB_scal]
  exact decide_eq_true (runes_scal l r hr)
theorem Make_runes (s : ByteArray) (v : Value) (base : Nat) (W : World) (h : validL (L s) = true) (hl : s.size ≤ 20000) (hown : W.ownsRow base 21 1 v (runes (L s)).length (rcells (runes (L s)))) :
    Calls Try.prog 22 #[v] W fun e w' => e = .returned (.tuple #[.string s, .int .i64 0]) ∧ W = w' := by
  have hr := runes_length_le (L s)
  rw [← size_L] at hr
  have := Make_any v ((runes (L s)).map fun (r : Nat) => (r : Int)) W (SlR_own hown) (by simp; omega)
  have ha := runes_all (L s)
  have e1 : makA ((runes (L s)).map fun (r : Nat) => (r : Int)) = s := by
    unfold makA
    rw [if_pos ha, runesBytes_u8 _ (runes_scal (L s)), valid_u8 _ h]
  have e2 : makE ((runes (L s)).map fun (r : Nat) => (r : Int)) = 0 := by unfold makE; rw [if_pos ha]
  rw [e1, e2] at this
  exact this
theorem no0_at (x : ByteArray) (l : List UInt8) (hx : L x = encL l) (k : Nat) (hk : k < x.size) : (((x[k]'hk).toNat : Int) == 0) = false := by
  rw [beq_eq_false_iff_ne]
  intro h
  have h1 : (x[k]'hk).toNat = 0 := by omega
  have hk' : k < (L x).length := by rw [← size_L]; exact hk
  have h2 : x[k]'hk = (L x)[k] := rfl
  have h3 : (L x)[k] ∈ encL l := by rw [← hx]; exact List.getElem_mem hk'
  have h4 := encL_no0 l _ h3
  apply h4
  rw [← h2]
  exact UInt8.toNat_inj.1 (by simpa using h1)
theorem str_ne {x y : ByteArray} (h : x ≠ y) : (x.toList == y.toList) = false := by
  rw [ByteArray.toList_eq, ByteArray.toList_eq, beq_eq_false_iff_ne]
  intro e
  apply h
  rw [← Lib.mk_data x, ← Lib.mk_data y, e]
theorem L_inj {x y : ByteArray} (h : L x = L y) : x = y := by
  rw [← Lib.mk_data x, ← Lib.mk_data y]
  exact congrArg (fun l : List UInt8 => (⟨l.toArray⟩ : ByteArray)) h
set_option maxRecDepth 1000000 in
set_option maxHeartbeats 1600000 in
theorem walk (a0 : ByteArray) (a1 : ByteArray) (w0 : a0.size ≤ maxLen) (w1 : a1.size ≤ maxLen) (w : World) :
    Calls Try.prog 8 #[.string a0, .string a1] w fun e w' => e = .returned (.bool true) ∧ Below w.heap.size w w' := by
  by_cases hl : a0.size ≤ 20000
  · by_cases hl2 : a1.size ≤ 20000
    · by_cases hv0 : validL (L a0) = true
      · by_cases hv1 : validL (L a1) = true
        · obtain ⟨x, hx⟩ : ∃ x : ByteArray, x = ⟨(encL (L a0)).toArray⟩ := ⟨_, rfl⟩
          obtain ⟨y, hy⟩ : ∃ y : ByteArray, y = ⟨(encL (L a1)).toArray⟩ := ⟨_, rfl⟩
          have HA := fun W => Lib.hid (Encode_val a0 x W hx hv0 hl)
          have HB := fun W => Lib.hid (Encode_val a1 y W hy hv1 hl2)
          have hLx : L x = encL (L a0) := by rw [hx]
          have hLy : L y = encL (L a1) := by rw [hy]
          have hxl : x.size ≤ 40000 := by rw [size_L, hLx]; exact (enc_val _ hv0 (by rw [← size_L]; exact hl)).2.2
          have HD : ∀ W, Hid (Calls Try.prog 16 #[.string x] W fun e w' => e = .returned (.tuple #[.string a0, .int .i64 0]) ∧ Below W.heap.size W w') := by
            intro W
            have := Decode_any x W
            obtain ⟨d1, d2⟩ := dec_of_enc (L a0) hv0 (by rw [← hLx, ← size_L]; omega)
            rw [hLx, d1, d2] at this
            have e : strV (L a0) = .string a0 := by unfold strV; rw [Lib.mk_data]
            rw [e] at this
            exact this
          have HR := fun W => Lib.hid (Runes_any a0 W (by omega))
          have HM := Lib.hid (fun v base W hown => Make_runes a0 v base W hv0 hl hown)
          have HNZ := Lib.hid (fun k hk => no0_at x (L a0) hLx k hk)
          have hcase : (x = y ∧ a0 = a1) ∨ ((x.toList == y.toList) = false ∧ (a0.toList == a1.toList) = false) := by
            by_cases e : a0 = a1
            · exact .inl ⟨by rw [hx, hy, e], e⟩
            · refine .inr ⟨str_ne ?_, str_ne e⟩
              intro e2
              apply e
              apply L_inj
              apply encL_inj _ _ hv0 hv1
              rw [← hLx, ← hLy, e2]
          have HCASE := Lib.hid hcase
          clear w0 w1 hv0 hv1 hx hy hLx hLy hcase
          go_enter Try.func8, Try.ntmps8
          go_wp2_with fail
          refine (shown_any _).mono ?_
          rintro e v1 ⟨rfl, hb1⟩
          have hs1 := hb1.size
          go_wp2_with fail
          refine (HA _).out.mono ?_
          rintro e v2 ⟨rfl, hb2⟩
          have hb2 := hb1.trans (hb2.mono hs1)
          have hs2 := hb2.size
          clear hb1 hs1
          go_wp2_with fail
          refine (HB _).out.mono ?_
          rintro e v3 ⟨rfl, hb3⟩
          have hb3 := hb2.trans (hb3.mono hs2)
          have hs3 := hb3.size
          clear hb2 hs2
          go_wp2
          go_loopw [10] (fun i wr => ∃ k : Nat, k ≤ x.size ∧ i = .int .i64 k ∧ wr = v3) (fun i _ => x.size - (intOf i).toNat)
          case atStart => exact ⟨0, Nat.zero_le _, rfl, rfl⟩
          case round =>
            obtain ⟨k, hk, rfl, rfl⟩ := hrel
            by_cases hlt : k < x.size
            · have hnz := HNZ.out k hlt
              go_wp2
              go_roundw
              case rel => exact ⟨k + 1, by omega, by go_num, trivial⟩
              case measure => simp [intOf]; omega
            · go_wp2_with fail
              refine (HD _).out.mono ?_
              rintro e v4 ⟨rfl, hb4⟩
              have hb4 := hb3.trans (hb4.mono hs3)
              have hs4 := hb4.size
              go_wp2_with fail
              refine (HR _).out.mono ?_
              rintro e v5 ⟨v, rfl, hown5, hb5⟩
              have hb5 := hb4.trans (hb5.mono hs4)
              have HM5 := Lib.hid (HM.out v _ v5 hown5)
              clear hown5
              go_wp2_with fail
              refine HM5.out.mono ?_
              rintro e v6 ⟨rfl, rfl⟩
              rcases HCASE.out with ⟨rfl, rfl⟩ | ⟨hne1, hne2⟩
              · go_wp2
                go_ret
                exact ⟨rfl, hb5⟩
              · go_wp2
                go_ret
                exact ⟨rfl, hb5⟩
        · have hv1' : validL (L a1) = false := by simpa using hv1
          obtain ⟨x, hx⟩ : ∃ x : ByteArray, x = ⟨(encL (L a0)).toArray⟩ := ⟨_, rfl⟩
          have HA := fun W => Lib.hid (Encode_val a0 x W hx hv0 hl)
          have HB := fun W => Lib.hid (Encode_inv a1 W hv1' hl2)
          clear w0 w1 hv0 hv1 hv1' hx
          go_enter Try.func8, Try.ntmps8
          go_wp2_with fail
          refine (shown_any _).mono ?_
          rintro e v1 ⟨rfl, hb1⟩
          have hs1 := hb1.size
          go_wp2_with fail
          refine (HA _).out.mono ?_
          rintro e v2 ⟨rfl, hb2⟩
          have hb2 := hb1.trans (hb2.mono hs1)
          have hs2 := hb2.size
          clear hb1 hs1
          go_wp2_with fail
          refine (HB _).out.mono ?_
          rintro e v3 ⟨rfl, hb3⟩
          have hb3 := hb2.trans (hb3.mono hs2)
          have hs3 := hb3.size
          clear hb2 hs2
          go_wp2
          go_ret
          exact ⟨rfl, hb3⟩
      · have hv0' : validL (L a0) = false := by simpa using hv0
        have HA := fun W => Lib.hid (Encode_inv a0 W hv0' hl)
        clear w0 w1 hv0 hv0'
        by_cases hv1 : validL (L a1) = true
        · obtain ⟨y, hy⟩ : ∃ y : ByteArray, y = ⟨(encL (L a1)).toArray⟩ := ⟨_, rfl⟩
          have HB := fun W => Lib.hid (Encode_val a1 y W hy hv1 hl2)
          clear hv1 hy
          go_enter Try.func8, Try.ntmps8
          go_wp2_with fail
          refine (shown_any _).mono ?_
          rintro e v1 ⟨rfl, hb1⟩
          have hs1 := hb1.size
          go_wp2_with fail
          refine (HA _).out.mono ?_
          rintro e v2 ⟨rfl, hb2⟩
          have hb2 := hb1.trans (hb2.mono hs1)
          have hs2 := hb2.size
          clear hb1 hs1
          go_wp2_with fail
          refine (HB _).out.mono ?_
          rintro e v3 ⟨rfl, hb3⟩
          have hb3 := hb2.trans (hb3.mono hs2)
          have hs3 := hb3.size
          clear hb2 hs2
          go_wp2
          go_ret
          exact ⟨rfl, hb3⟩
        · have hv1' : validL (L a1) = false := by simpa using hv1
          have HB := fun W => Lib.hid (Encode_inv a1 W hv1' hl2)
          clear hv1 hv1'
          go_enter Try.func8, Try.ntmps8
          go_wp2_with fail
          refine (shown_any _).mono ?_
          rintro e v1 ⟨rfl, hb1⟩
          have hs1 := hb1.size
          go_wp2_with fail
          refine (HA _).out.mono ?_
          rintro e v2 ⟨rfl, hb2⟩
          have hb2 := hb1.trans (hb2.mono hs1)
          have hs2 := hb2.size
          clear hb1 hs1
          go_wp2_with fail
          refine (HB _).out.mono ?_
          rintro e v3 ⟨rfl, hb3⟩
          have hb3 := hb2.trans (hb3.mono hs2)
          have hs3 := hb3.size
          clear hb2 hs2
          go_wp2
          go_ret
          exact ⟨rfl, hb3⟩
    · go_enter Try.func8, Try.ntmps8
      go_wp2_with fail
      refine (shown_any _).mono ?_
      rintro e v1 ⟨rfl, hb1⟩
      have hs1 := hb1.size
      go_wp2
      go_ret
      exact ⟨rfl, hb1⟩
  · go_enter Try.func8, Try.ntmps8
    go_wp2_with fail
    refine (shown_any _).mono ?_
    rintro e v1 ⟨rfl, hb1⟩
    have hs1 := hb1.size
    go_wp2
    go_ret
    exact ⟨rfl, hb1⟩

set_option maxRecDepth 100000 in
theorem lifted (os : Os) (started : os.Started) (H : Type) (enc : TypeId × Value → H) :
    ReturnsInHanded {} Try.checked os 8 .any (Rows.mutfBackSpec.pre6 enc Try.prog Try.f8 Rows.mutfBackRow.domain false) (Rows.mutfBackSpec.post enc Try.prog Try.f8 false true false false) := by
  refine returnsInHanded_of_change (C := Try.checked) own started (by kernel_rfl) Try.func8
    (ChangeSpec.witness6 (enc := enc) (C := Try.checked) false ⟨#[], #[.string ByteArray.empty, .string ByteArray.empty], []⟩ 8 (by kernel_rfl) (by kernel_rfl) (by kernel_rfl) (by kernel_rfl)) ?_
  intro W base args ds gs before hval0 hW hcnd _
  have hval : ∀ (j : Nat) t v, Try.f8.params[j]? = some t → args[j]? = some v → Value.okWide Try.prog W .any base t v := hval0
  have hW' := hW
  obtain ⟨p, q, hA0, hV, rfl, hfz, hnd⟩ := hW
  have hA : DataW.TrodAll enc Try.prog W 0 (fun _ => true) true Try.f8.params.toList args.toList ds p := hA0
  rw [Try.params8] at hA hval
  obtain ⟨v0, vs0, d0, ds0, p0, q0, hargs, rfl, rfl, h0, r0⟩ := trodAll_cons hA
  obtain ⟨v1, vs1, d1, ds1, p1, q1, rfl, rfl, rfl, h1, r1⟩ := trodAll_cons r0
  obtain ⟨rfl, rfl, rfl⟩ := trodAll_nil r1
  obtain rfl : args = #[v0, v1] := by cases args; simp_all
  obtain ⟨rfl, rfl⟩ := trodVars_none hV
  obtain ⟨a0, rfl, rfl, rfl, w0⟩ := open_string Try.underlying9 (hval 0 9 v0 rfl rfl) h0
  obtain ⟨a1, rfl, rfl, rfl, w1⟩ := open_string Try.underlying9 (hval 1 9 v1 rfl rfl) h1
  clear hA0 hval0
  simp only [List.append_nil] at hW'
  refine (walk a0 a1 w0 w1 W).mono fun e W' ⟨he, bel⟩ => ?_
  subst he
  exact ⟨_, rfl, _, _, _, [], [], [], hW', trodAll_mk1 (shut_bool Try.underlying4 _), (trodAll_cons_mk (shut_string Try.underlying9 w0) (trodAll_cons_mk (shut_string Try.underlying9 w1) trodAll_mk0)), rfl, bel.frame _, fun h => by cases h⟩

theorem over : Rows.mutfBackRow.holds Try.pinned (OpenSpec.ofChange Rows.mutfBackSpec) :=
  OpenClaim.holds_of_wide 8 Try.f8 rfl rfl rfl rfl rfl rfl rfl ⟨rfl, rfl, rfl, rfl, rfl⟩ rfl rfl rfl rfl rfl (by kernel_rfl) Try.func8 (by kernel_rfl)
    (of_decide_eq_true (by kernel_rfl)) (by unfold Func.isWrapper; first | (rw [if_pos (by decide +kernel)]; kernel_rfl) | (rw [if_neg (by decide +kernel)]; exact ⟨rfl, rfl⟩))
    (fun os started H enc _ => lifted os started H enc)

theorem proved : Rows.MutfBackSaid :=
  over
end Go.Proofs.Ytkbnhjmpojpfhaa.mutfBack
