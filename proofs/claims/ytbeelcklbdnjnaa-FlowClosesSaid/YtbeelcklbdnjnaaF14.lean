/-
  WALKS of the document's own graph: has, Succ, Starts, Back.
-/
import Derived.Test.YtbeelcklbdnjnaaF10
import Derived.Deep.DeepCutAuto
set_option linter.unusedVariables false
set_option linter.unusedSimpArgs false
namespace Go.Proofs.Ytbeelcklbdnjnaa
open Go.RowKit

set_option maxRecDepth 1000000 in
set_option maxHeartbeats 1600000 in
theorem refHas_any (B : Nat) (l : List Int) (v : Value) (x : Int) (w : World) (hr : IRow B w v l) (hB : B ≤ w.heap.size) :
    Calls Try.prog 31 #[v, .int .i64 x] w fun e w' => e = .returned (.bool (decide (x ∈ l))) ∧ w' = w := by
  obtain ⟨A, c, rfl, hc, hm⟩ := hr.form
  have HR := Lib.hid hr
  unfold maxLen at hm
  clear hr
  go_enter Try.func31, Try.ntmps31
  go_wp2
  go_loopw [5] (fun i wr => ∃ k : Nat, k ≤ l.length ∧ i = .int .i64 k ∧ (∀ (j : Nat) (y : Int), j < k → l[j]? = some y → y ≠ x) ∧ wr = w) (fun i _ => l.length - (intOf i).toNat)
  case atStart => exact ⟨0, Nat.zero_le _, rfl, fun j y hj => by omega, rfl⟩
  case round =>
    obtain ⟨k, hk, rfl, hne, rfl⟩ := hrel
    have HNE := Lib.hid hne
    clear hne
    by_cases hlt : k < l.length
    · have hy := List.getElem?_eq_getElem hlt
      generalize l[k] = y at hy
      obtain ⟨b, o, rfl, hbB, c0⟩ := HR.out.at_ hy
      have HY := Lib.hid hy
      have hbw : b < wr.heap.size := by omega
      clear hy
      by_cases hp : y = x
      · have e1 : (y == x) = true := by simpa using hp
        have HP := Lib.hid hp
        clear hp
        go_wp2
        go_ret
        exact ⟨ret_b (decide_eq_true (by rw [← HP.out]; exact List.mem_of_getElem? HY.out)).symm, rfl⟩
      · have e1 : (y == x) = false := by simpa using hp
        have HP := Lib.hid hp
        clear hp
        go_wp2
        go_roundw
        case rel =>
          refine ⟨k + 1, by omega, by go_num, fun j z hj hz => ?_, by first | rfl | trivial⟩
          rcases Nat.lt_or_eq_of_le (Nat.le_of_lt_succ hj) with h | rfl
          · exact HNE.out j z h hz
          · rw [HY.out] at hz; cases hz; exact HP.out
        case measure => simp [intOf]; omega
    · go_wp2
      go_ret
      refine ⟨ret_b (decide_eq_false fun h => ?_).symm, rfl⟩
      obtain ⟨j, hj⟩ := List.mem_iff_getElem?.1 h
      exact HNE.out j x (by have := (List.getElem?_eq_some_iff.1 hj).1; omega) hj rfl
set_option maxRecDepth 1000000 in
set_option maxHeartbeats 3200000 in
theorem refStarts_any (B : Nat) (l : List In) (hs : List Hd) (v hv : Value) (w : World) (hr : NRow B w v l) (hh : HRow B w hv hs) (hB : B ≤ w.heap.size) (hm : hs.length ≤ 1000000) :
    Calls Try.prog 17 #[v, hv] w fun e w' => ∃ u, e = .returned u ∧ IOwn w' w.heap.size u (staL l hs) ∧ Below w.heap.size w w' := by
  obtain ⟨A, c, rfl, hc, hml⟩ := hr.form
  obtain ⟨A2, c2, rfl, hc2, hml2⟩ := hh.form
  have HR := Lib.hid hr
  have HH := Lib.hid hh
  unfold maxLen at hml hml2
  obtain ⟨i0, hi0, hz0, hz1, hz2⟩ := info3
  clear hr hh
  go_enter Try.func17, Try.ntmps17
  go_wp2
  go_loopw [5, 6] (fun u i wr => ∃ k : Nat, k ≤ hs.length ∧ i = .int .i64 k ∧ IOwn wr w.heap.size u ((staL l hs).take k) ∧ Below w.heap.size w wr) (fun _ i _ => hs.length - (intOf i).toNat)
  case atStart => exact ⟨0, Nat.zero_le _, rfl, IOwn.nil _ _, Below.refl _ _⟩
  case round =>
    obtain ⟨k, hk, rfl, hown, hb⟩ := hrel
    have HBE := Lib.hid hb
    have HOW := Lib.hid hown
    have hsz := hb.size
    obtain ⟨au, cu, rfl⟩ := hown.form
    have hlk : ((staL l hs).take k).length = k := by rw [List.length_take, staL_len]; omega
    have HLK := Lib.hid hlk
    rw [hlk] at HOW ⊢
    clear hown hb hlk
    by_cases hlt : k < hs.length
    · have hx := List.getElem?_eq_getElem hlt
      generalize hs[k] = x at hx
      obtain ⟨b, o, rfl, hbB, d0, d1, d2, d3⟩ := (HH.out.below HBE.out hB).at_ hx
      have HX := Lib.hid hx
      have HIX := Lib.hid (refIndex_any B l _ x.at_ wr (HR.out.below HBE.out hB) (by omega))
      have hbw : b < wr.heap.size := by omega
      clear hx
      go_wp2_with fail
      refine HIX.out.mono ?_
      rintro e w1 ⟨rfl, hb1⟩
      have HO1 := Lib.hid (show w1.ownsRow w.heap.size 3 1 (.slice au k cu) k (icells ((staL l hs).take k)) by
        have := own_below HOW.out hb1
        rwa [HLK.out] at this)
      have HB1 := Lib.hid (Below.link HBE.out hb1)
      have hz1' := hb1.size
      clear hb1
      go_wp2_with (at_builtin; refine wpList_append_own2 rfl (.tmp 13) (.tmp 21) 34 rfl w.heap.size 3 i0 (.int .i64 0) 1 8 Try.underlying34 hi0 hz0 hz1 hz2 rfl (by decide) (.slice au k cu) k _ rfl (World.ownsRow.alloc HO1.out _) ⟨_, 0, none⟩ 1 1 [.int .i64 (idxP l x.at_)] rfl rfl (new_at _ [.int .i64 (idxP l x.at_)] 3 _ rfl) (int_cells .i64 [idxP l x.at_]) (by unfold maxLen; omega) (by omega) (by simp; omega) ?_)
      intro v3 w3 own3 hg3 hm3
      have HO3 := Lib.hid own3
      have HB3 := Lib.hid ((HB1.out.alloc HB1.out.size (.cells #[.int .i64 (idxP l x.at_)] 3)).grown hg3 (by simp; have := HB1.out.size; omega) (fun k hk => own_block_ge HO1.out k hk))
      obtain ⟨a3, c3, rfl⟩ := own_form own3
      clear own3 hg3 hm3
      go_wp2
      go_roundw
      case rel =>
        refine ⟨k + 1, by omega, by go_num, ?_, HB3.out⟩
        have e1 : (staL l hs).take (k + 1) = (staL l hs).take k ++ [idxP l x.at_] := by
          rw [List.take_add_one]
          simp [staL, HX.out]
        rw [e1]
        exact IOwn.more HO3.out HLK.out.symm rfl
      case measure => simp [intOf]; omega
    · obtain rfl : k = hs.length := by omega
      go_wp2
      go_ret
      refine ⟨_, rfl, ?_, HBE.out⟩
      have := HOW.out
      rw [List.take_of_length_le (by rw [staL_len]; exact Nat.le_refl _)] at this
      exact this
set_option maxRecDepth 1000000 in
set_option maxHeartbeats 3200000 in
theorem refBack_any (B : Nat) (l : List In) (v : Value) (w : World) (hr : NRow B w v l) (hB : B ≤ w.heap.size) (hm : l.length ≤ 1000000) :
    Calls Try.prog 22 #[v] w fun e w' => ∃ u, e = .returned u ∧ w'.ownsRow w.heap.size 4 1 u l.length (bcells (backL l)) ∧ Below w.heap.size w w' := by
  obtain ⟨A, c, rfl, hc, hml⟩ := hr.form
  have HR := Lib.hid hr
  unfold maxLen at hml
  obtain ⟨i0, hi0, hz0, hz1, hz2⟩ := info_parts mk4
  have hbl : (backL l).length = l.length := by simp [backL]
  have HBL := Lib.hid hbl
  clear hr hbl
  go_enter Try.func22, Try.ntmps22
  go_wp2
  go_loopw [3, 4] (fun u i wr => ∃ k : Nat, k ≤ l.length ∧ i = .int .i64 k ∧ wr.ownsRow w.heap.size 4 1 u k (bcells ((backL l).take k)) ∧ Below w.heap.size w wr) (fun _ i _ => l.length - (intOf i).toNat)
  case atStart => exact ⟨0, Nat.zero_le _, rfl, World.ownsRow_nil _ _ _ _, Below.refl _ _⟩
  case round =>
    obtain ⟨k, hk, rfl, hown, hb⟩ := hrel
    have HBE := Lib.hid hb
    have HOW := Lib.hid hown
    have hsz := hb.size
    obtain ⟨au, cu, rfl⟩ := own_form hown
    clear hown hb
    by_cases hlt : k < l.length
    · have hx := List.getElem?_eq_getElem hlt
      generalize l[k] = x at hx
      obtain ⟨b, o, Ak, ck, At, ct, rfl, hbB, _, hto, c0, c1, c2, c3, c4⟩ := (HR.out.below HBE.out hB).at_ hx
      have HX := Lib.hid hx
      have HTO := Lib.hid hto
      obtain ⟨_, _, _, hcx, hmx⟩ := hto.form
      unfold maxLen at hmx
      have hbw : b < wr.heap.size := by omega
      clear hx hto
      go_wp2
      obtain ⟨wo, hwo⟩ : ∃ wo, wo = wr := ⟨_, rfl⟩
      subst hwo
      go_loopw [5, 6] (fun q i w3 => ∃ j : Nat, j ≤ x.to.length ∧ i = .int .i64 j ∧ q = .bool ((x.to.take j).any fun t => decide (t ≤ x.pc)) ∧ Drawn wo w3) (fun _ i _ => x.to.length - (intOf i).toNat)
      case atStart => exact ⟨0, Nat.zero_le _, rfl, rfl, Drawn.refl _⟩
      case round =>
        obtain ⟨j, hj, rfl, rfl, hd⟩ := hrel
        have HD := Lib.hid hd
        have hszd := hd.size
        have hszd2 : wo.heap.size ≤ wr.heap.size := by omega
        obtain ⟨b9, o9, Ak9, ck9, At9, ct9, hA9, hbB9, _, hto9, c0, c1, c2, c3, c4⟩ := (hd.nrow (HR.out.below HBE.out hB)).at_ HX.out
        injection hA9 with hA9
        injection hA9 with hA91 hA92
        subst hA91 hA92
        have hto8 := hd.irow HTO.out
        have HTO9 := Lib.hid hto9
        obtain ⟨_, _, _, hcx9, hmx9⟩ := hto9.form
        unfold maxLen at hmx9
        have hbw9 : b < wr.heap.size := by omega
        clear hd hto8 hto9 hszd
        by_cases hjl : j < x.to.length
        · have ht := List.getElem?_eq_getElem hjl
          generalize x.to[j] = t at ht
          obtain ⟨b2, o2, rfl, hb2B, ct0⟩ := HTO9.out.at_ ht
          have HAN := Lib.hid (any_step (g := fun t => decide (t ≤ x.pc)) ht)
          obtain ⟨q, hq⟩ : ∃ q, ((x.to.take j).any fun t => decide (t ≤ x.pc)) = q := ⟨_, rfl⟩
          rw [hq] at HAN
          rw [hq]
          have hb2w : b2 < wr.heap.size := by omega
          clear ht hq
          cases q with
          | true =>
            go_wp2
            go_quiet (exact ⟨rfl, rfl⟩)
            go_wp2
            go_roundw
            case rel => exact ⟨j + 1, by omega, by go_num, by rw [HAN.out]; rfl, HD.out.step _⟩
            case measure => simp [intOf]; omega
          | false =>
            by_cases hle : t ≤ x.pc
            · have HLE := Lib.hid (show ((x.to.take (j + 1)).any fun t => decide (t ≤ x.pc)) = true by rw [HAN.out]; simpa using hle)
              go_wp2
              go_quiet (exact ⟨rfl, rfl⟩)
              go_wp2
              go_roundw
              case rel => exact ⟨j + 1, by omega, by go_num, by rw [HLE.out], HD.out.step _⟩
              case measure => simp [intOf]; omega
            · have HLE := Lib.hid (show ((x.to.take (j + 1)).any fun t => decide (t ≤ x.pc)) = false by rw [HAN.out]; simpa using hle)
              have gle : (t ≤ x.pc) = False := eq_false hle
              clear hle
              go_wp2
              go_quiet (exact ⟨rfl, rfl⟩)
              go_wp2
              go_roundw
              case rel => exact ⟨j + 1, by omega, by go_num, by rw [HLE.out], HD.out.step _⟩
              case measure => simp [intOf]; omega
        · obtain rfl : j = x.to.length := by omega
          rw [List.take_length]
          have HBK := Lib.hid (show (x.to.any fun t => decide (t ≤ x.pc)) = backP x from rfl)
          rw [HBK.out]
          have HBE := Lib.hid (HD.out.keep HBE.out)
          have HOW := Lib.hid (own_below HOW.out HD.out.below)
          clear HBK
          go_wp2_with (at_builtin; refine wpList_append_own2 rfl (.tmp 40) (.tmp 42) 36 rfl w.heap.size 4 i0 (.bool false) 1 1 Try.underlying36 hi0 hz0 hz1 hz2 rfl (by decide) (.slice au k cu) k _ rfl (World.ownsRow.alloc HOW.out _) ⟨_, 0, none⟩ 1 1 [.bool (backP x)] rfl rfl (new_at _ [.bool (backP x)] 4 _ rfl) (fun u hu => by simp at hu; subst hu; rfl) (by unfold maxLen; omega) (by omega) (by simp; omega) ?_)
          intro v3 w3 own3 hg3 hm3
          have HO3 := Lib.hid own3
          have HB3 := Lib.hid ((HBE.out.alloc HBE.out.size (.cells #[.bool (backP x)] 4)).grown hg3 (by simp; have := HBE.out.size; omega) (fun k hk => own_block_ge HOW.out k hk))
          obtain ⟨a3, c3, rfl⟩ := own_form own3
          clear own3 hg3 hm3
          go_wp2
          go_roundw
          case rel =>
            refine ⟨k + 1, by omega, by go_num, ?_, HB3.out⟩
            have e1 : bcells ((backL l).take (k + 1)) = bcells ((backL l).take k) ++ [.bool (backP x)] := by
              rw [List.take_add_one]
              simp [backL, HX.out, bcells]
            rw [e1]
            exact HO3.out
          case measure => simp [intOf]; omega
    · obtain rfl : k = l.length := by omega
      go_wp2
      go_ret
      refine ⟨_, rfl, ?_, HBE.out⟩
      have := HOW.out
      rw [List.take_of_length_le (by rw [HBL.out]; exact Nat.le_refl _)] at this
      exact this
set_option maxRecDepth 1000000 in
set_option maxHeartbeats 6400000 in
theorem refSucc_any (B n : Nat) (l : List In) (v : Value) (w : World) (hr : NRow B w v l) (hB : B ≤ w.heap.size) (ho : Ord n l) (hm : l.length ≤ 1000000) :
    Calls Try.prog 12 #[v] w fun e w' => ∃ u, e = .returned u ∧ LOwn w' w.heap.size u (succL l) ∧ Below w.heap.size w w' := by
  obtain ⟨A, c, rfl, hc, hml⟩ := hr.form
  have HR := Lib.hid hr
  have HO := Lib.hid ho
  unfold maxLen at hml
  obtain ⟨i0, hi0, hz0, hz1, hz2⟩ := info3
  obtain ⟨i1, hi1, hy0, hy1, hy2⟩ := info_parts mk34
  clear hr ho
  go_enter Try.func12, Try.ntmps12
  go_wp2
  go_loopw [3, 4] (fun u i wr => ∃ k : Nat, k ≤ l.length ∧ i = .int .i64 k ∧ LOwn wr w.heap.size u ((succL l).take k) ∧ Below w.heap.size w wr) (fun _ i _ => l.length - (intOf i).toNat)
  case atStart => exact ⟨0, Nat.zero_le _, rfl, LOwn.nil _ _, Below.refl _ _⟩
  case round =>
    obtain ⟨k, hk, rfl, hown, hb⟩ := hrel
    have HBE := Lib.hid hb
    have HOW := Lib.hid hown
    have hsz := hb.size
    obtain ⟨au, cu, rfl⟩ := hown.form
    have hlk : ((succL l).take k).length = k := by rw [List.length_take, succL_len]; omega
    have HLK := Lib.hid hlk
    rw [hlk] at HOW ⊢
    clear hown hb hlk
    by_cases hlt : k < l.length
    · have hx := List.getElem?_eq_getElem hlt
      generalize l[k] = x at hx
      obtain ⟨b, o, Ak, ck, At, ct, hA, hbB, _, hto, c0, c1, c2, c3, c4⟩ := (HR.out.below HBE.out hB).at_ hx
      have HX := Lib.hid hx
      subst hA
      have hfw := HO.out.few x (List.mem_of_getElem? hx)
      have hbw : b < wr.heap.size := by omega
      have HEND := fun W => refEnds_any x.op W
      obtain ⟨q, hq⟩ : ∃ q, endsP x.op = q := ⟨_, rfl⟩
      rw [hq] at HEND
      have HFI := Lib.hid (show firstS l.length k x = if !q && decide (k + 1 < l.length) then [((k + 1 : Nat) : Int)] else [] by unfold firstS; rw [hq]; cases q <;> simp)
      clear hx hto hq
      go_upto_region 7 with (first | (go_at_call 23; refine (HEND _).mono ?_; rintro e wi ⟨rfl, rfl⟩))
      go_cut [30] (fun c wx => c = .bool (!q && decide (k + 1 < l.length)) ∧ wx = wr)
      case first =>
        by_cases hk1 : k + 1 < l.length
        · cases q with
          | true =>
            go_wp2
            go_meet
            case rel => exact ⟨by simp, rfl⟩
          | false =>
            go_wp2
            go_meet
            case rel => exact ⟨by simp; omega, rfl⟩
        · cases q with
          | true =>
            go_wp2
            go_meet
            case rel => exact ⟨by simp, rfl⟩
          | false =>
            go_wp2
            go_meet
            case rel => exact ⟨by simp; omega, rfl⟩
      case rest =>
        obtain ⟨rfl, rfl⟩ := hcut
        obtain ⟨wo, hwo⟩ : ∃ wo, wo = wc := ⟨_, rfl⟩
        subst hwo
        go_upto_if 30 with fail
        go_cut [5] (fun sv wx => IOwn wx wo.heap.size sv (firstS l.length k x) ∧ Below wo.heap.size wo wx)
        case first =>
          by_cases hc2 : (!q && decide (k + 1 < l.length)) = true
          · have e5 : firstS l.length k x = [(k : Int) + 1] := by rw [HFI.out, if_pos hc2]; simp
            have hk1 : k + 1 < l.length := by simp at hc2; exact hc2.2
            have HE5 := Lib.hid e5
            rw [hc2]
            clear hc2 e5 HFI
            go_wp2_with (at_builtin; refine wpList_append_own2 rfl (.tmp 31) (.tmp 34) 34 rfl wo.heap.size 3 i0 (.int .i64 0) 1 8 Try.underlying34 hi0 hz0 hz1 hz2 rfl (by decide) (.slice none 0 0) 0 [] rfl (World.ownsRow_nil _ _ _ _) ⟨_, 0, none⟩ 1 1 [.int .i64 ((k : Int) + 1)] rfl rfl (new_at _ [.int .i64 ((k : Int) + 1)] 3 _ rfl) (int_cells .i64 [(k : Int) + 1]) (by unfold maxLen; omega) (by omega) (by simp) ?_)
            intro v3 w3 own3 hg3 hm3
            have HO3 := Lib.hid own3
            have HB3 := Lib.hid ((((Below.refl wo.heap.size wo).alloc (Nat.le_refl _) (.cells #[.int .i64 ((k : Int) + 1)] 3)).grown hg3 (by simp) (fun k hk => by cases hk)))
            clear own3 hg3 hm3
            go_wp2
            go_meet
            case rel => exact ⟨by rw [HE5.out]; exact HO3.out, HB3.out⟩
          · have hc3 : (!q && decide (k + 1 < l.length)) = false := by simpa using hc2
            have HE5 := Lib.hid (show firstS l.length k x = [] by rw [HFI.out, if_neg hc2])
            rw [hc3]
            clear hc2 hc3 HFI
            go_wp2
            go_meet
            case rel => exact ⟨by rw [HE5.out]; exact IOwn.nil _ _, Below.refl _ _⟩
        case rest =>
          obtain ⟨hs0, hb0⟩ := hcut
          have HS0 := Lib.hid hs0
          have HB0 := Lib.hid hb0
          have hz0' := hb0.size
          obtain ⟨ax, cx, rfl⟩ := hs0.form
          clear hs0 hb0 c0 c1 c2 c3 c4
          go_wp2
          go_loopw [5, 7] (fun sv i w3 => ∃ j : Nat, j ≤ x.to.length ∧ i = .int .i64 j ∧ IOwn w3 wo.heap.size sv (sucN l k x j) ∧ Below wo.heap.size wo w3) (fun _ i _ => x.to.length - (intOf i).toNat)
          case atStart => exact ⟨0, Nat.zero_le _, rfl, HS0.out, HB0.out⟩
          case round =>
            clear HS0 HB0 hz0'
            obtain ⟨j, hj, rfl, hs1, hb1⟩ := hrel
            have HS1 := Lib.hid hs1
            have HB1 := Lib.hid hb1
            have hz1' := hb1.size
            obtain ⟨ax, cx, rfl⟩ := hs1.form
            have hbelw := HBE.out.trans (hb1.mono hsz)
            have HBW := Lib.hid hbelw
            obtain ⟨b9, o9, Ak9, ck9, At9, ct9, hA9, hbB9, _, hto9, c0, c1, c2, c3, c4⟩ := (HR.out.below hbelw hB).at_ HX.out
            injection hA9 with hA9
            injection hA9 with hA91 hA92
            subst hA91 hA92
            have HTO9 := Lib.hid hto9
            obtain ⟨_, _, _, hcx9, hmx9⟩ := hto9.form
            unfold maxLen at hmx9
            have hbw9 : b < wr.heap.size := by omega
            have hls := len_sucN l k x j
            clear hs1 hb1 hto9 hbelw
            by_cases hjl : j < x.to.length
            · have ht := List.getElem?_eq_getElem hjl
              generalize x.to[j] = t at ht
              obtain ⟨b2, o2, rfl, hb2B, ct0⟩ := HTO9.out.at_ ht
              have e7 : sucN l k x (j + 1) = addI (sucN l k x j) (idxP l t) := by rw [sucN, getD_of ht]
              have HE7 := Lib.hid e7
              have HIX := Lib.hid (refIndex_any B l _ t wr (HR.out.below HBW.out hB) (by omega))
              have hb2w : b2 < wr.heap.size := by omega
              obtain ⟨z, hz⟩ : ∃ z, idxP l t = z := ⟨_, rfl⟩
              rw [hz] at HE7 HIX
              obtain ⟨sj, hsj⟩ : ∃ sj, sucN l k x j = sj := ⟨_, rfl⟩
              rw [hsj] at HE7 HS1 hls ⊢
              clear ht e7 hz hsj
              go_wp2_with fail
              refine HIX.out.mono ?_
              rintro e w4 ⟨rfl, hb4⟩
              have HS4 := Lib.hid (own_below HS1.out hb4 : IOwn w4 wo.heap.size (.slice ax sj.length cx) sj)
              have HB4 := Lib.hid (HB1.out.trans (hb4.mono hz1'))
              have HH := Lib.hid (refHas_any w4.heap.size sj _ z w4 (Row.of_own HS4.out) (Nat.le_refl _))
              have hz4 := HB4.out.size
              clear hb4 HIX c0 c1 c2 c3 c4 ct0
              by_cases hin : z ∈ sj
              · have hd : decide (z ∈ sj) = true := decide_eq_true hin
                rw [hd] at HH
                have HE8 := Lib.hid (show sucN l k x (j + 1) = sj by rw [HE7.out]; unfold addI; rw [if_pos hin])
                clear hd hin
                go_wp2_with (first | (go_at_call 31; refine HH.out.mono ?_; rintro e wi ⟨rfl, rfl⟩))
                go_roundw
                case rel => exact ⟨j + 1, by omega, by go_num, by rw [HE8.out]; exact HS4.out, HB4.out⟩
                case measure => simp [intOf]; omega
              · have hd : decide (z ∈ sj) = false := decide_eq_false hin
                rw [hd] at HH
                have HE8 := Lib.hid (show sucN l k x (j + 1) = sj ++ [z] by rw [HE7.out]; unfold addI; rw [if_neg hin])
                clear hd hin
                go_wp2_with (first | (go_at_call 31; refine HH.out.mono ?_; rintro e wi ⟨rfl, rfl⟩) | (at_builtin; refine wpList_append_own2 rfl (.tmp 61) (.tmp 63) 34 rfl wo.heap.size 3 i0 (.int .i64 0) 1 8 Try.underlying34 hi0 hz0 hz1 hz2 rfl (by decide) (.slice ax sj.length cx) sj.length (icells sj) rfl (World.ownsRow.alloc HS4.out _) ⟨_, 0, none⟩ 1 1 [.int .i64 z] rfl rfl (new_at _ [.int .i64 z] 3 _ rfl) (int_cells .i64 [z]) (by unfold maxLen; omega) (by omega) (by simp; omega) ?_))
                intro v3 w3 own3 hg3 hm3
                have HO3 := Lib.hid own3
                have HB3 := Lib.hid ((HB4.out.alloc hz4 (.cells #[.int .i64 z] 3)).grown hg3 (by simp; omega) (fun k hk => own_block_ge HS4.out k hk))
                obtain ⟨a3, c3, rfl⟩ := own_form own3
                clear own3 hg3 hm3
                go_wp2
                go_roundw
                case rel => exact ⟨j + 1, by omega, by go_num, by rw [HE8.out]; exact IOwn.more HO3.out rfl rfl, HB3.out⟩
                case measure => simp [intOf]; omega
            · obtain rfl : j = x.to.length := by omega
              have HSP := Lib.hid (show IOwn wr w.heap.size (.slice ax (sucP l k x).length cx) (sucP l k x) from own_mono HS1.out hsz)
              have hOW := HOW.out.below HB1.out
              obtain ⟨ps, hp0, hp1, hp2⟩ := hOW
              rw [HLK.out] at hp0 hp2
              have HP0 := Lib.hid hp0
              have HP1 := Lib.hid hp1
              have HP2 := Lib.hid hp2
              have hwz : w.heap.size ≤ wr.heap.size := by omega
              rw [show (sucN l k x x.to.length) = sucP l k x from rfl] at *
              clear hp0 hp1 hp2
              go_wp2_with (at_builtin; refine wpList_append_own2 rfl (.tmp 65) (.tmp 67) 29 rfl w.heap.size 34 i1 (.slice none 0 0) 1 24 (by kernel_rfl) hi1 hy0 hy1 hy2 rfl (by decide) (.slice au k cu) k ps rfl (World.ownsRow.alloc HP2.out _) ⟨_, 0, none⟩ 1 1 [.slice ax (sucP l k x).length cx] rfl rfl (new_at _ [.slice ax (sucP l k x).length cx] 34 _ rfl) (fun u hu => by simp at hu; subst hu; rfl) (by unfold maxLen; omega) (by omega) (by simp; omega) ?_)
              intro v3 w3 own3 hg3 hm3
              have HLM := Lib.hid (LOwn.more (o := .cells #[.slice ax (sucP l k x).length cx] 34) (HP0.out.trans HLK.out.symm) HP1.out hwz (by rw [HLK.out]; exact HP2.out) HSP.out (by rw [HLK.out]; exact own3) hg3)
              have HB3 := Lib.hid ((HBW.out.alloc hwz (.cells #[.slice ax (sucP l k x).length cx] 34)).grown hg3 (by simp; omega) (fun k hk => own_block_ge HP2.out k hk))
              obtain ⟨a3, c3, rfl⟩ := own_form own3
              clear own3 hg3 hm3
              go_wp2
              go_roundw
              case rel =>
                refine ⟨k + 1, by omega, by go_num, ?_, HB3.out⟩
                have e1 : (succL l).take (k + 1) = (succL l).take k ++ [sucP l k x] := by
                  rw [List.take_add_one, succL_at HX.out]
                  rfl
                rw [e1]
                exact HLM.out
              case measure => simp [intOf]; omega
    · obtain rfl : k = l.length := by omega
      go_wp2
      go_ret
      refine ⟨_, rfl, ?_, HBE.out⟩
      have := HOW.out
      rw [List.take_of_length_le (by rw [succL_len]; exact Nat.le_refl _)] at this
      exact this
end Go.Proofs.Ytbeelcklbdnjnaa
