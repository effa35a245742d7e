/-
  PROVED: two texts behind one another have their bytes and their runes behind one another (texts of more than 10000 bytes are passed by, as the statement says). No condition.
-/
import Derived.Test.YtkbnhjmpojpfhaaRows
import Derived.Test.YtkbnhjmpojpfhaaW13
import Derived.WalkKit
import Derived.ProofKit
import Derived.OpenShut
import Derived.ShutString
import Derived.ChangeOld
import Derived.Below
namespace Go.Proofs.Ytkbnhjmpojpfhaa.mutfJoins
open Go.ChangeShapes Go.WideShapes Go.ChangeAt Go.RowKit
open Go.ChangeMaps (open_string shut_string)
set_option linter.unusedVariables false      -- a walk need not use every 'w<i>' (that an integer argument fits its kind)

theorem own : ownKnob Try.prog.godebug = none := by kernel_rfl

theorem Encode_gen (s : ByteArray) (W : World) (hl : s.size ≤ 100000) : ∃ (x : ByteArray) (z : Int), (∀ W, Calls Try.prog 14 #[.string s] W fun e w' => e = .returned (.tuple #[.string x, .int .i64 z]) ∧ Below W.heap.size W w') ∧ x = ⟨(encA (L s)).toArray⟩ ∧ z = encE (L s) :=
  ⟨_, _, fun W => Encode_any s W (by omega), rfl, rfl⟩
theorem encE_ne (l : List UInt8) (h : validL l = false) : encE l = 4 := by unfold encE; simp [h]
theorem L_append (a b : ByteArray) : L (a ++ b) = L a ++ L b := by simp [L]
theorem pick_any (c n : Int) (h1 : 1 ≤ n) (h2 : n ≤ 100000) (hc1 : -9223372036854775808 ≤ c) (hc2 : c ≤ 9223372036854775807) (w : World) :
    Calls Try.prog 26 #[.int .i64 c, .int .i64 n] w fun e w' => ∃ i : Int, e = .returned (.int .i64 i) ∧ 0 ≤ i ∧ i < n ∧ w = w' := by
  have hn0 : (n == 0) = false := by rw [beq_eq_false_iff_ne]; omega
  by_cases h : c < 0
  · have ht : -((c + 1).tmod n) = (-(c + 1)) % n := by rw [← Int.neg_tmod, Int.tmod_eq_emod_of_nonneg (by omega)]
    have h3 : 0 ≤ -((c + 1).tmod n) := by rw [ht]; exact Int.emod_nonneg _ (by omega)
    have h4 : -((c + 1).tmod n) < n := by rw [ht]; exact Int.emod_lt_of_pos _ (by omega)
    clear ht
    go_enter Try.func26, Try.ntmps26
    go_wp2
    go_ret
    exact ⟨_, rfl, h3, h4, rfl⟩
  · have h0 : 0 ≤ c := by omega
    have h3 : 0 ≤ c % n := Int.emod_nonneg _ (by omega)
    have h4 : c % n < n := Int.emod_lt_of_pos _ (by omega)
    go_enter Try.func26, Try.ntmps26
    go_wp2
    go_ret
    exact ⟨_, rfl, h3, h4, rfl⟩
theorem at_join (a b : List UInt8) (i : Int) (h : validL a = true) (h0 : 0 ≤ i) :
    (atR (a ++ b) i = if i < ((runes a).length : Int) then atR a i else atR b (i - (runes a).length)) ∧ (atB (a ++ b) i = if i < ((runes a).length : Int) then atB a i else atB b (i - (runes a).length)) := by
  unfold atR atB
  rw [runes_append a b h, List.length_append]
  by_cases hi : i < ((runes a).length : Int)
  · rw [if_pos hi, if_pos hi, if_pos h0, if_pos h0]
    constructor
    · simp only [List.getD]
      rw [List.getElem?_append_left (by omega)]
    · exact decide_eq_decide.2 ⟨fun h => by omega, fun h => by omega⟩
  · rw [if_neg hi, if_neg hi, if_pos h0, if_pos (by omega)]
    constructor
    · simp only [List.getD]
      rw [List.getElem?_append_right (by omega)]
      congr 2
      omega
    · exact decide_eq_decide.2 ⟨fun h => by omega, fun h => by omega⟩
set_option maxRecDepth 1000000 in
set_option maxHeartbeats 1600000 in
theorem walk (a0 : ByteArray) (a1 : ByteArray) (a2 : Int) (w0 : a0.size ≤ maxLen) (w1 : a1.size ≤ maxLen) (w2 : (Lit.int .i64 a2).wf = true) (w : World) :
    Calls Try.prog 10 #[.string a0, .string a1, .int .i64 a2] w fun e w' => e = .returned (.bool true) ∧ Below w.heap.size w w' := by
  by_cases hl : a0.size ≤ 10000
  · by_cases hl2 : a1.size ≤ 10000
    · have hsj : (a0 ++ a1).size = a0.size + a1.size := by simp [ByteArray.size_append]
      obtain ⟨x, zx, HA0, hx, hzx⟩ := Encode_gen a0 w (by omega)
      obtain ⟨y, zy, HB0, hy, hzy⟩ := Encode_gen a1 w (by omega)
      obtain ⟨t, zt, HC0, ht, hzt⟩ := Encode_gen (a0 ++ a1) w (by omega)
      have HA := fun W => Lib.hid (HA0 W)
      have HB := fun W => Lib.hid (HB0 W)
      have HC := fun W => Lib.hid (HC0 W)
      clear HA0 HB0 HC0
      by_cases hv0 : validL (L a0) = true
      · by_cases hv1 : validL (L a1) = true
        · have he0 := encL_le _ hv0
          have he1 := encL_le _ hv1
          have hvj : validL (L (a0 ++ a1)) = true := by rw [L_append, valid_append _ _ hv0]; exact hv1
          have hej : encL (L (a0 ++ a1)) = encL (L a0) ++ encL (L a1) := by rw [L_append, encL_append _ _ hv0]
          rw [← size_L] at he0 he1
          have hxe : x = ⟨(encL (L a0)).toArray⟩ := by rw [hx]; unfold encA; rw [if_pos ⟨hv0, by omega⟩]
          have hye : y = ⟨(encL (L a1)).toArray⟩ := by rw [hy]; unfold encA; rw [if_pos ⟨hv1, by omega⟩]
          have hte : t = x ++ y := by
            rw [ht, hxe, hye]
            unfold encA
            rw [if_pos ⟨hvj, by rw [hej, List.length_append]; omega⟩, hej]
            simp [ByteArray.mk_append_mk]
          have hzx0 : zx = 0 := by rw [hzx]; unfold encE; rw [if_pos hv0, if_pos (by omega)]
          have hzy0 : zy = 0 := by rw [hzy]; unfold encE; rw [if_pos hv1, if_pos (by omega)]
          have hzt0 : zt = 0 := by rw [hzt]; unfold encE; rw [if_pos hvj, hej, List.length_append, if_pos (by omega)]
          have hxs : x.size ≤ 20000 := by rw [size_L, hxe]; show (encL (L a0)).length ≤ 20000; omega
          have hys : y.size ≤ 20000 := by rw [size_L, hye]; show (encL (L a1)).length ≤ 20000; omega
          have hr0 := runes_length_le (L a0)
          have hr1 := runes_length_le (L a1)
          rw [← size_L] at hr0 hr1
          have HJ := Lib.hid (fun i h0 => at_join (L a0) (L a1) i hv0 h0)
          have HLA := fun W => Lib.hid (Len_any a0 W w0)
          have HLB := fun W => Lib.hid (Len_any a1 W w1)
          have HAJ : ∀ (i : Int) (W : World), i ≤ 9223372036854775807 → Hid (Calls Try.prog 21 #[.string (a0 ++ a1), .int .i64 i] W fun e w' => e = .returned (.tuple #[.int .i32 (atR (L a0 ++ L a1) i), .bool (atB (L a0 ++ L a1) i)]) ∧ Below W.heap.size W w') := by
            intro i W hi
            have := At_any (a0 ++ a1) i W hi
            rw [L_append] at this
            exact this
          have hc1 : -9223372036854775808 ≤ a2 := by have := bounds_i64 w2; omega
          have hc2 : a2 ≤ 9223372036854775807 := by have := bounds_i64 w2; omega
          obtain ⟨n0, hn0⟩ : ∃ n, (runes (L a0)).length = n := ⟨_, rfl⟩
          obtain ⟨n1, hn1⟩ : ∃ n, (runes (L a1)).length = n := ⟨_, rfl⟩
          rw [hn0] at HJ HLA hr0
          rw [hn1] at HLB hr1
          have HP := Lib.hid (fun W => pick_any a2 ((n0 : Int) + n1 + 1) (by omega) (by omega) hc1 hc2 W)
          have HQ0 := fun (i : Int) (W : World) (hi : i ≤ 9223372036854775807) => Lib.hid (At_any a0 i W hi)
          have HQ1 := fun (i : Int) (W : World) (hi : i ≤ 9223372036854775807) => Lib.hid (At_any a1 i W hi)
          subst hzx0 hzy0 hzt0
          subst hte
          clear w0 w1 w2 hv0 hv1 he0 he1 hvj hej hxe hye hx hy ht hzx hzy hzt hn0 hn1 hsj
          go_enter Try.func10, Try.ntmps10
          go_wp2_with fail
          refine (shown_any _).mono ?_
          rintro e v1 ⟨rfl, hb1⟩
          have hs1 := hb1.size
          go_wp2_with fail
          refine (HA _).out.mono ?_
          rintro e v2 ⟨rfl, hb2⟩
          have hb2 := hb1.trans (hb2.mono hs1)
          have hs2 := hb2.size
          clear hb1 hs1
          go_wp2_with fail
          refine (HB _).out.mono ?_
          rintro e v3 ⟨rfl, hb3⟩
          have hb3 := hb2.trans (hb3.mono hs2)
          have hs3 := hb3.size
          clear hb2 hs2
          go_wp2_with fail
          refine (HC _).out.mono ?_
          rintro e v4 ⟨rfl, hb4⟩
          have hb4 := hb3.trans (hb4.mono hs3)
          have hs4 := hb4.size
          clear hb3 hs3
          go_wp2_with fail
          refine (HLA _).out.mono ?_
          rintro e v5 ⟨rfl, p5, rfl⟩
          have hb5 : Below w.heap.size w (v4.iter a0 p5) := hb4.alloc hs4 _
          have hs5 := hb5.size
          generalize v4.iter a0 p5 = v5 at *
          go_wp2_with fail
          refine (HLB _).out.mono ?_
          rintro e v6 ⟨rfl, p6, rfl⟩
          have hb6 : Below w.heap.size w (v5.iter a1 p6) := hb5.alloc hs5 _
          have hs6 := hb6.size
          generalize v5.iter a1 p6 = v6 at *
          go_wp2_with fail
          refine (HP.out _).mono ?_
          rintro e v7 ⟨i, rfl, hi0, hi1, rfl⟩
          have hJ := HJ.out i hi0
          have H1 := HAJ i v6 (by omega)
          have H2 := fun W => HQ0 i W (by omega)
          have H3 := fun W => HQ1 (i - n0) W (by omega)
          obtain ⟨hJ1, hJ2⟩ := hJ
          rw [hJ1, hJ2] at H1
          clear hJ1 hJ2 HAJ HQ0 HQ1
          by_cases hlt : i < (n0 : Int)
          · rw [if_pos hlt, if_pos hlt] at H1
            generalize atR (L a0) i = r at *
            generalize atB (L a0) i = b at *
            go_wp2_with fail
            refine H1.out.mono ?_
            rintro e v8 ⟨rfl, hb8⟩
            have hb8 := hb6.trans (hb8.mono hs6)
            have hs8 := hb8.size
            clear hb6 hs6 hb4 hs4 hb5 hs5
            go_wp2_with fail
            refine (H2 _).out.mono ?_
            rintro e v9 ⟨rfl, hb9⟩
            have hb9 := hb8.trans (hb9.mono hs8)
            clear hb8 hs8
            cases b
            all_goals
              go_wp2
              go_ret
              exact ⟨rfl, hb9⟩
          · rw [if_neg hlt, if_neg hlt] at H1
            generalize atR (L a1) (i - n0) = r at *
            generalize atB (L a1) (i - n0) = b at *
            generalize atR (L a0) i = r' at *
            generalize atB (L a0) i = b' at *
            go_wp2_with fail
            refine H1.out.mono ?_
            rintro e v8 ⟨rfl, hb8⟩
            have hb8 := hb6.trans (hb8.mono hs6)
            have hs8 := hb8.size
            clear hb6 hs6 hb4 hs4 hb5 hs5
            go_wp2_with fail
            refine (H2 _).out.mono ?_
            rintro e v9 ⟨rfl, hb9⟩
            have hb9 := hb8.trans (hb9.mono hs8)
            have hs9 := hb9.size
            clear hb8 hs8
            go_wp2_with fail
            refine (H3 _).out.mono ?_
            rintro e v10 ⟨rfl, hb10⟩
            have hb10 := hb9.trans (hb10.mono hs9)
            clear hb9 hs9
            cases b
            all_goals
              go_wp2
              go_ret
              exact ⟨rfl, hb10⟩
        · have hz : zy = 4 := by rw [hzy]; exact encE_ne _ (by simpa using hv1)
          subst hz
          have hz2 : zx = 0 ∨ zx ≠ 0 := by omega
          clear w0 w1 w2 hv0 hv1 hx hy ht hzx hzy hzt
          have hj : zx = 0 ∨ (zx == 0) = false := by rcases hz2 with h | h; exact .inl h; exact .inr (beq_eq_false_iff_ne.2 h)
          clear hz2
          rcases hj with rfl | hj
          all_goals
            go_enter Try.func10, Try.ntmps10
            go_wp2_with fail
            refine (shown_any _).mono ?_
            rintro e v1 ⟨rfl, hb1⟩
            have hs1 := hb1.size
            go_wp2_with fail
            refine (HA _).out.mono ?_
            rintro e v2 ⟨rfl, hb2⟩
            have hb2 := hb1.trans (hb2.mono hs1)
            have hs2 := hb2.size
            clear hb1 hs1
            go_wp2_with fail
            refine (HB _).out.mono ?_
            rintro e v3 ⟨rfl, hb3⟩
            have hb3 := hb2.trans (hb3.mono hs2)
            have hs3 := hb3.size
            clear hb2 hs2
            go_wp2_with fail
            refine (HC _).out.mono ?_
            rintro e v4 ⟨rfl, hb4⟩
            have hb4 := hb3.trans (hb4.mono hs3)
            have hs4 := hb4.size
            clear hb3 hs3
            go_wp2
            all_goals
              go_ret
              exact ⟨rfl, hb4⟩
      · have hz : zx = 4 := by rw [hzx]; exact encE_ne _ (by simpa using hv0)
        subst hz
        clear w0 w1 w2 hv0 hx hy ht hzx hzy hzt
        go_enter Try.func10, Try.ntmps10
        go_wp2_with fail
        refine (shown_any _).mono ?_
        rintro e v1 ⟨rfl, hb1⟩
        have hs1 := hb1.size
        go_wp2_with fail
        refine (HA _).out.mono ?_
        rintro e v2 ⟨rfl, hb2⟩
        have hb2 := hb1.trans (hb2.mono hs1)
        have hs2 := hb2.size
        clear hb1 hs1
        go_wp2_with fail
        refine (HB _).out.mono ?_
        rintro e v3 ⟨rfl, hb3⟩
        have hb3 := hb2.trans (hb3.mono hs2)
        have hs3 := hb3.size
        clear hb2 hs2
        go_wp2_with fail
        refine (HC _).out.mono ?_
        rintro e v4 ⟨rfl, hb4⟩
        have hb4 := hb3.trans (hb4.mono hs3)
        have hs4 := hb4.size
        clear hb3 hs3
        go_wp2
        go_ret
        exact ⟨rfl, hb4⟩
    · go_enter Try.func10, Try.ntmps10
      go_wp2_with fail
      refine (shown_any _).mono ?_
      rintro e v1 ⟨rfl, hb1⟩
      have hs1 := hb1.size
      go_wp2
      go_ret
      exact ⟨rfl, hb1⟩
  · go_enter Try.func10, Try.ntmps10
    go_wp2_with fail
    refine (shown_any _).mono ?_
    rintro e v1 ⟨rfl, hb1⟩
    have hs1 := hb1.size
    go_wp2
    go_ret
    exact ⟨rfl, hb1⟩

set_option maxRecDepth 100000 in
theorem lifted (os : Os) (started : os.Started) (H : Type) (enc : TypeId × Value → H) :
    ReturnsInHanded {} Try.checked os 10 .any (Rows.mutfJoinsSpec.pre6 enc Try.prog Try.f10 Rows.mutfJoinsRow.domain false) (Rows.mutfJoinsSpec.post enc Try.prog Try.f10 false true false false) := by
  refine returnsInHanded_of_change (C := Try.checked) own started (by kernel_rfl) Try.func10
    (ChangeSpec.witness6 (enc := enc) (C := Try.checked) false ⟨#[], #[.string ByteArray.empty, .string ByteArray.empty, .int .i64 0], []⟩ 8 (by kernel_rfl) (by kernel_rfl) (by kernel_rfl) (by kernel_rfl)) ?_
  intro W base args ds gs before hval0 hW hcnd _
  have hval : ∀ (j : Nat) t v, Try.f10.params[j]? = some t → args[j]? = some v → Value.okWide Try.prog W .any base t v := hval0
  have hW' := hW
  obtain ⟨p, q, hA0, hV, rfl, hfz, hnd⟩ := hW
  have hA : DataW.TrodAll enc Try.prog W 0 (fun _ => true) true Try.f10.params.toList args.toList ds p := hA0
  rw [Try.params10] at hA hval
  obtain ⟨v0, vs0, d0, ds0, p0, q0, hargs, rfl, rfl, h0, r0⟩ := trodAll_cons hA
  obtain ⟨v1, vs1, d1, ds1, p1, q1, rfl, rfl, rfl, h1, r1⟩ := trodAll_cons r0
  obtain ⟨v2, vs2, d2, ds2, p2, q2, rfl, rfl, rfl, h2, r2⟩ := trodAll_cons r1
  obtain ⟨rfl, rfl, rfl⟩ := trodAll_nil r2
  obtain rfl : args = #[v0, v1, v2] := by cases args; simp_all
  obtain ⟨rfl, rfl⟩ := trodVars_none hV
  obtain ⟨a0, rfl, rfl, rfl, w0⟩ := open_string Try.underlying9 (hval 0 9 v0 rfl rfl) h0
  obtain ⟨a1, rfl, rfl, rfl, w1⟩ := open_string Try.underlying9 (hval 1 9 v1 rfl rfl) h1
  obtain ⟨a2, rfl, rfl, rfl, w2⟩ := open_int Try.underlying3 (hval 2 3 v2 rfl rfl) h2
  clear hA0 hval0
  simp only [List.append_nil] at hW'
  refine (walk a0 a1 a2 w0 w1 w2 W).mono fun e W' ⟨he, bel⟩ => ?_
  subst he
  exact ⟨_, rfl, _, _, _, [], [], [], hW', trodAll_mk1 (shut_bool Try.underlying4 _), (trodAll_cons_mk (shut_string Try.underlying9 w0) (trodAll_cons_mk (shut_string Try.underlying9 w1) (trodAll_cons_mk (shut_int Try.underlying3 w2) trodAll_mk0))), rfl, bel.frame _, fun h => by cases h⟩

theorem over : Rows.mutfJoinsRow.holds Try.pinned (OpenSpec.ofChange Rows.mutfJoinsSpec) :=
  OpenClaim.holds_of_wide 10 Try.f10 rfl rfl rfl rfl rfl rfl rfl ⟨rfl, rfl, rfl, rfl, rfl⟩ rfl rfl rfl rfl rfl (by kernel_rfl) Try.func10 (by kernel_rfl)
    (of_decide_eq_true (by kernel_rfl)) (by unfold Func.isWrapper; first | (rw [if_pos (by decide +kernel)]; kernel_rfl) | (rw [if_neg (by decide +kernel)]; exact ⟨rfl, rfl⟩))
    (fun os started H enc _ => lifted os started H enc)

theorem proved : Rows.MutfJoinsSaid :=
  over
end Go.Proofs.Ytkbnhjmpojpfhaa.mutfJoins
