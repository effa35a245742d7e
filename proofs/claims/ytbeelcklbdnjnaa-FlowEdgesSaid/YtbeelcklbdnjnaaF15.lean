/-
  WALKS of the document's own graph: Cover.
-/
import Derived.Test.YtbeelcklbdnjnaaF14
import Derived.Deep.DeepCutAuto
set_option linter.unusedVariables false
set_option linter.unusedSimpArgs false
namespace Go.Proofs.Ytbeelcklbdnjnaa
open Go.RowKit

set_option maxHeartbeats 1600000 in
theorem refIndex_same (B : Nat) (l : List In) (v : Value) (pc : Int) (w : World) (hr : NRow B w v l) (hB : B ≤ w.heap.size) :
    Calls Try.prog 30 #[v, .int .i64 pc] w fun e w' => e = .returned (.int .i64 (idxP l pc)) ∧ w' = w := by
  obtain ⟨A, c, rfl, hc, hm⟩ := hr.form
  have HR := Lib.hid hr
  unfold maxLen at hm
  clear hr
  go_enter Try.func30, Try.ntmps30
  go_wp2
  go_loopw [5] (fun i wr => ∃ k : Nat, k ≤ l.length ∧ i = .int .i64 k ∧ (∀ (j : Nat) (y : In), j < k → l[j]? = some y → y.pc ≠ pc) ∧ wr = w) (fun i _ => l.length - (intOf i).toNat)
  case atStart => exact ⟨0, Nat.zero_le _, rfl, fun j y hj => by omega, rfl⟩
  case round =>
    obtain ⟨k, hk, rfl, hne, rfl⟩ := hrel
    have HNE := Lib.hid hne
    clear hne
    by_cases hlt : k < l.length
    · have hx := List.getElem?_eq_getElem hlt
      generalize l[k] = x at hx
      obtain ⟨b, o, Ak, ck, At, ct, rfl, hbB, _, _, c0, c1, c2, c3, c4⟩ := HR.out.at_ hx
      have HX := Lib.hid hx
      clear hx
      by_cases hp : x.pc = pc
      · have e1 : (x.pc == pc) = true := by simpa using hp
        have HP := Lib.hid hp
        clear hp
        go_wp2
        go_ret
        exact ⟨ret_i (idx_step HX.out HNE.out HP.out).symm, rfl⟩
      · have e1 : (x.pc == pc) = false := by simpa using hp
        have HP := Lib.hid hp
        clear hp
        go_wp2
        go_roundw
        case rel =>
          refine ⟨k + 1, by omega, by go_num, fun j y hj hy => ?_, by first | rfl | trivial⟩
          rcases Nat.lt_or_eq_of_le (Nat.le_of_lt_succ hj) with h | rfl
          · exact HNE.out j y h hy
          · rw [HX.out] at hy; cases hy; exact HP.out
        case measure => simp [intOf]; omega
    · go_wp2
      go_ret
      refine ⟨ret_i (idx_none fun j y hy => HNE.out j y (by have := (List.getElem?_eq_some_iff.1 hy).1; omega) hy).symm, rfl⟩
theorem okH_ref {l : List In} {n : Nat} {x : Hd} : okH l n x = (decide (¬ idxP l x.frm < 0) && decide (¬ idxP l x.at_ < 0) && (x.to == (n : Int) || decide (¬ idxP l x.to < 0))) := by
  unfold okH
  congr 1
  · congr 1
    · rw [decide_eq_decide]; omega
    · rw [decide_eq_decide]; omega
  · congr 1
    rw [decide_eq_decide]; omega
set_option maxRecDepth 1000000 in
set_option maxHeartbeats 6400000 in
theorem refCover_any (B n : Nat) (l : List In) (hs : List Hd) (v hv : Value) (w : World) (hr : NRow B w v l) (hh : HRow B w hv hs) (hB : B ≤ w.heap.size) (hl : l.length ≤ 1000000) (hm : hs.length ≤ 1000000) :
    Calls Try.prog 14 #[v, .int .i64 n, hv] w fun e w' => ∃ u, e = .returned (.tuple #[u, .int .i64 (covE l n hs)]) ∧ LOwn w' w.heap.size u (covA l n hs) ∧ Below w.heap.size w w' := by
  obtain ⟨A, c, rfl, hc, hml⟩ := hr.form
  obtain ⟨A2, c2, rfl, hc2, hml2⟩ := hh.form
  have HR := Lib.hid hr
  have HH := Lib.hid hh
  unfold maxLen at hml hml2
  obtain ⟨i0, hi0, hz0, hz1, hz2⟩ := info3
  obtain ⟨i1, hi1, hy0, hy1, hy2⟩ := info_parts mk34
  clear hr hh
  go_enter Try.func14, Try.ntmps14
  go_wp2
  go_loopw [8] (fun i wr => ∃ k : Nat, k ≤ hs.length ∧ i = .int .i64 k ∧ (∀ (j : Nat) (x : Hd), j < k → hs[j]? = some x → okH l n x = true) ∧ Below w.heap.size w wr) (fun i _ => hs.length - (intOf i).toNat)
  case atStart => exact ⟨0, Nat.zero_le _, rfl, fun j x hj => by omega, Below.refl _ _⟩
  case round =>
    obtain ⟨k, hk, rfl, hok, hb⟩ := hrel
    have HOK := Lib.hid hok
    have HBE := Lib.hid hb
    have hsz := hb.size
    clear hok hb
    by_cases hlt : k < hs.length
    · have hx := List.getElem?_eq_getElem hlt
      generalize hs[k] = x at hx
      obtain ⟨b, o, rfl, hbB, d0, d1, d2, d3⟩ := (HH.out.below HBE.out hB).at_ hx
      have HX := Lib.hid hx
      have hbw : b < wr.heap.size := by omega
      have bx : Below wr.heap.size wr (wr.alloc (.cells #[.int .i64 x.frm, .int .i64 x.to, .int .i64 x.at_, .int .i64 x.cls] 48)) := (Below.refl _ _).alloc (Nat.le_refl _) _
      have HC1 := Lib.hid (heap_new wr (.cells #[.int .i64 x.frm, .int .i64 x.to, .int .i64 x.at_, .int .i64 x.cls] 48))
      have HB1 := Lib.hid (Below.link HBE.out bx)
      obtain ⟨xb, hxb⟩ : ∃ y, y = wr.heap.size := ⟨_, rfl⟩
      rw [← hxb] at HC1
      go_upto_region 5 with fail
      rw [← hxb]
      obtain ⟨W1, hW1⟩ : ∃ y, y = wr.alloc (.cells #[.int .i64 x.frm, .int .i64 x.to, .int .i64 x.at_, .int .i64 x.cls] 48) := ⟨_, rfl⟩
      rw [← hW1] at HB1 HC1
      rw [← hW1]
      clear hx bx hxb hW1 d0 d1 d2 d3 hbw
      have HRW := Lib.hid (HR.out.below HB1.out hB)
      have hBW : B ≤ W1.heap.size := by have := HB1.out.size; omega
      have HI := Lib.hid (fun pc => refIndex_same B l _ pc W1 HRW.out hBW)
      have hxc := cells_of HC1.out
      have y0 := hxc 0
      have y1 := hxc 1
      have y2 := hxc 2
      simp at y0 y1 y2
      have HOKX := Lib.hid (okH_ref (l := l) (n := n) (x := x))
      clear hxc
      go_cut [48] (fun a wx => a = .bool (!okH l n x) ∧ wx = W1)
      case first =>
        have HI1 := Lib.hid (HI.out x.frm)
        have HI2 := Lib.hid (HI.out x.at_)
        have HI3 := Lib.hid (HI.out x.to)
        obtain ⟨F, hF⟩ : ∃ F, idxP l x.frm = F := ⟨_, rfl⟩
        obtain ⟨G, hG⟩ : ∃ F, idxP l x.at_ = F := ⟨_, rfl⟩
        obtain ⟨T, hT⟩ : ∃ F, idxP l x.to = F := ⟨_, rfl⟩
        rw [hF] at HOKX HI1
        rw [hG] at HOKX HI2
        rw [hT] at HOKX HI3
        clear hF hG hT HI
        by_cases h1 : F < 0
        · go_wp2_with fail
          refine HI1.out.mono ?_
          rintro e wi ⟨rfl, rfl⟩
          go_wp2
          go_meet
          case rel => exact ⟨by rw [HOKX.out]; simp [h1], rfl⟩
        · go_wp2_with fail
          refine HI1.out.mono ?_
          rintro e wi ⟨rfl, rfl⟩
          by_cases h2 : G < 0
          · go_wp2_with fail
            refine HI2.out.mono ?_
            rintro e wi ⟨rfl, rfl⟩
            go_wp2
            go_meet
            case rel => exact ⟨by rw [HOKX.out]; simp [h2], rfl⟩
          · go_wp2_with fail
            refine HI2.out.mono ?_
            rintro e wi ⟨rfl, rfl⟩
            by_cases h3 : x.to = (n : Int)
            · have e3 : (x.to != (n : Int)) = false := by simpa using h3
              have e3' : (x.to == (n : Int)) = true := by simpa using h3
              have HE3 := Lib.hid e3'
              clear h3 e3'
              go_wp2
              go_meet
              case rel => exact ⟨by rw [HOKX.out, HE3.out]; simp [show 0 ≤ F by omega, show 0 ≤ G by omega, show ¬ F < 0 by omega, show ¬ G < 0 by omega], rfl⟩
            · have e3 : (x.to != (n : Int)) = true := by simpa using h3
              have e3' : (x.to == (n : Int)) = false := by simpa using h3
              have HE3 := Lib.hid e3'
              clear h3 e3'
              by_cases h4 : T < 0
              · go_wp2_with fail
                refine HI3.out.mono ?_
                rintro e wi ⟨rfl, rfl⟩
                go_wp2
                go_meet
                case rel => exact ⟨by rw [HOKX.out, HE3.out]; simp [h4], rfl⟩
              · go_wp2_with fail
                refine HI3.out.mono ?_
                rintro e wi ⟨rfl, rfl⟩
                go_wp2
                go_meet
                case rel => exact ⟨by rw [HOKX.out, HE3.out]; simp [show 0 ≤ F by omega, show 0 ≤ G by omega, show ¬ F < 0 by omega, show ¬ G < 0 by omega, show 0 ≤ T by omega, show ¬ T < 0 by omega], rfl⟩
      case rest =>
        obtain ⟨rfl, rfl⟩ := hcut
        clear HOKX HI y0 y1 y2
        rcases hq : okH l n x with _ | _
        · have HE := Lib.hid (covE_bad HX.out hq)
          clear hq
          go_wp2
          go_ret2
          refine ⟨.slice none 0 0, by rw [HE.out]; rfl, ?_, HB1.out⟩
          unfold covA
          rw [HE.out, if_neg (by decide)]
          exact LOwn.nil _ _
        · have HQ := Lib.hid hq
          clear hq
          go_wp2
          go_roundw
          case rel =>
            refine ⟨k + 1, by omega, by go_num, fun j y hj hy => ?_, HB1.out⟩
            rcases Nat.lt_or_eq_of_le (Nat.le_of_lt_succ hj) with h | rfl
            · exact HOK.out j y h hy
            · rw [HX.out] at hy; cases hy; exact HQ.out
          case measure => simp [intOf]; omega
    · obtain rfl : k = hs.length := by omega
      have e0 := covE_ok (l := l) (n := (n : Int)) (hs := hs) fun k x hk => HOK.out k x (List.getElem?_eq_some_iff.1 hk).1 hk
      have HE0 := Lib.hid e0
      clear e0 HOK
      go_wp2
      go_loopw [10, 11] (fun u i wx => ∃ k : Nat, k ≤ l.length ∧ i = .int .i64 k ∧ LOwn wx w.heap.size u ((covL l hs).take k) ∧ Below w.heap.size w wx) (fun _ i _ => l.length - (intOf i).toNat)
      case atStart => exact ⟨0, Nat.zero_le _, rfl, LOwn.nil _ _, HBE.out⟩
      case round =>
        clear HBE hsz
        obtain ⟨k, hk2, rfl, hown, hb⟩ := hrel
        have HBE := Lib.hid hb
        have HOW := Lib.hid hown
        have hsz := hb.size
        obtain ⟨au, cu, rfl⟩ := hown.form
        have hlk : ((covL l hs).take k).length = k := by rw [List.length_take]; simp [covL]; omega
        have HLK := Lib.hid hlk
        rw [hlk] at HOW ⊢
        clear hown hb hlk
        by_cases hlt2 : k < l.length
        · have hx := List.getElem?_eq_getElem hlt2
          generalize l[k] = x at hx
          have HX := Lib.hid hx
          clear hx
          go_wp2
          obtain ⟨wo, hwo⟩ : ∃ wo, wo = wr := ⟨_, rfl⟩
          subst hwo
          go_loopw [12, 13] (fun sv i w3 => ∃ j : Nat, j ≤ hs.length ∧ i = .int .i64 j ∧ IOwn w3 wo.heap.size sv (covN hs x.pc j) ∧ Below wo.heap.size wo w3) (fun _ i _ => hs.length - (intOf i).toNat)
          case atStart => exact ⟨0, Nat.zero_le _, rfl, IOwn.nil _ _, Below.refl _ _⟩
          case round =>
            obtain ⟨j, hj, rfl, hs1, hb1⟩ := hrel
            have HS1 := Lib.hid hs1
            have hz1' := hb1.size
            have HB1 := Lib.hid hb1
            obtain ⟨ax, cx, rfl⟩ := hs1.form
            have hbelw := HBE.out.trans (hb1.mono hsz)
            have HBW := Lib.hid hbelw
            have hls := len_covN hs x.pc j
            clear hs1 hb1 hbelw
            by_cases hjl : j < hs.length
            · have hy := List.getElem?_eq_getElem hjl
              generalize hs[j] = y at hy
              obtain ⟨b, o, hA, hbB, d0, d1, d2, d3⟩ := (HH.out.below HBW.out hB).at_ hy
              subst hA
              obtain ⟨b9, o9, Ak9, ck9, At9, ct9, hA9, hbB9, _, _, c0, c1, c2', c3, c4⟩ := (HR.out.below HBW.out hB).at_ HX.out
              subst hA9
              have hbw : b < wr.heap.size := by omega
              have hbw9 : b9 < wr.heap.size := by omega
              have HCN := Lib.hid (show covN hs x.pc (j + 1) = covN hs x.pc j ++ (if y.frm ≤ x.pc ∧ x.pc < y.to then [(j : Int)] else []) by rw [covN, getD_of hy])
              obtain ⟨sj, hsj⟩ : ∃ sj, covN hs x.pc j = sj := ⟨_, rfl⟩
              rw [hsj] at HCN HS1 hls ⊢
              clear hy hsj
              go_upto_region 15 with fail
              go_cut [84] (fun a wx => a = .bool (decide (y.frm ≤ x.pc ∧ x.pc < y.to)) ∧ Drawn wr wx)
              case first =>
                by_cases hp1 : y.frm ≤ x.pc
                · by_cases hp2 : x.pc < y.to
                  · go_quiet (exact ⟨rfl, rfl⟩)
                    go_wp2
                    go_meet
                    case rel => exact ⟨by simp [hp1, hp2], ⟨_, rfl⟩⟩
                  · have g4 : (x.pc < y.to) = False := eq_false hp2
                    clear hp2
                    go_quiet (exact ⟨rfl, rfl⟩)
                    go_wp2
                    go_meet
                    case rel => exact ⟨by simp [g4], ⟨_, rfl⟩⟩
                · have g4 : (y.frm ≤ x.pc) = False := eq_false hp1
                  clear hp1
                  go_quiet (exact ⟨rfl, rfl⟩)
                  go_wp2
                  go_meet
                  case rel => exact ⟨by simp [g4], ⟨_, rfl⟩⟩
              case rest =>
                obtain ⟨rfl, hd⟩ := hcut
                have HS2 := Lib.hid (own_below HS1.out hd.below : IOwn wc wo.heap.size (.slice ax sj.length cx) sj)
                have HB2 := Lib.hid (hd.keep HB1.out)
                have hzB := HB2.out.size
                clear hd c0 c1 c2' c3 c4 d0 d1 d2 d3
                by_cases hcv : y.frm ≤ x.pc ∧ x.pc < y.to
                · rw [decide_eq_true hcv]
                  have HE8 := Lib.hid (show covN hs x.pc (j + 1) = sj ++ [(j : Int)] by rw [HCN.out, if_pos hcv])
                  clear hcv HCN
                  go_wp2_with (at_builtin; refine wpList_append_own2 rfl (.tmp 85) (.tmp 87) 34 rfl wo.heap.size 3 i0 (.int .i64 0) 1 8 Try.underlying34 hi0 hz0 hz1 hz2 rfl (by decide) (.slice ax sj.length cx) sj.length (icells sj) rfl (World.ownsRow.alloc HS2.out _) ⟨_, 0, none⟩ 1 1 [.int .i64 (j : Int)] rfl rfl (new_at _ [.int .i64 (j : Int)] 3 _ rfl) (int_cells .i64 [(j : Int)]) (by unfold maxLen; omega) (by omega) (by simp; omega) ?_)
                  intro v3 w3 own3 hg3 hm3
                  have HO3 := Lib.hid own3
                  have HB3 := Lib.hid ((HB2.out.alloc hzB (.cells #[.int .i64 (j : Int)] 3)).grown hg3 (by simp; omega) (fun k hk => own_block_ge HS2.out k hk))
                  obtain ⟨a3, c3, rfl⟩ := own_form own3
                  clear own3 hg3 hm3
                  go_wp2
                  go_roundw
                  case rel => exact ⟨j + 1, by omega, by go_num, by rw [HE8.out]; exact IOwn.more HO3.out rfl rfl, HB3.out⟩
                  case measure => simp [intOf]; omega
                · rw [decide_eq_false hcv]
                  have HE8 := Lib.hid (show covN hs x.pc (j + 1) = sj by rw [HCN.out, if_neg hcv, List.append_nil])
                  clear hcv HCN
                  go_wp2
                  go_roundw
                  case rel => exact ⟨j + 1, by omega, by go_num, by rw [HE8.out]; exact HS2.out, HB2.out⟩
                  case measure => simp [intOf]; omega
            · obtain rfl : j = hs.length := by omega
              have HSP := Lib.hid (show IOwn wr w.heap.size (.slice ax (covP hs x.pc).length cx) (covP hs x.pc) from own_mono HS1.out hsz)
              have hOW := HOW.out.below HB1.out
              obtain ⟨ps, hp0, hp1, hp2⟩ := hOW
              rw [HLK.out] at hp0 hp2
              have HP0 := Lib.hid hp0
              have HP1 := Lib.hid hp1
              have HP2 := Lib.hid hp2
              have hwz : w.heap.size ≤ wr.heap.size := by omega
              rw [show (covN hs x.pc hs.length) = covP hs x.pc from rfl] at *
              clear hp0 hp1 hp2
              go_wp2_with (at_builtin; refine wpList_append_own2 rfl (.tmp 89) (.tmp 91) 29 rfl w.heap.size 34 i1 (.slice none 0 0) 1 24 (by kernel_rfl) hi1 hy0 hy1 hy2 rfl (by decide) (.slice au k cu) k ps rfl (World.ownsRow.alloc HP2.out _) ⟨_, 0, none⟩ 1 1 [.slice ax (covP hs x.pc).length cx] rfl rfl (new_at _ [.slice ax (covP hs x.pc).length cx] 34 _ rfl) (fun u hu => by simp at hu; subst hu; rfl) (by unfold maxLen; omega) (by omega) (by simp; omega) ?_)
              intro v3 w3 own3 hg3 hm3
              have HLM := Lib.hid (LOwn.more (o := .cells #[.slice ax (covP hs x.pc).length cx] 34) (HP0.out.trans HLK.out.symm) HP1.out hwz (by rw [HLK.out]; exact HP2.out) HSP.out (by rw [HLK.out]; exact own3) hg3)
              have HB3 := Lib.hid ((HBW.out.alloc hwz (.cells #[.slice ax (covP hs x.pc).length cx] 34)).grown hg3 (by simp; omega) (fun k hk => own_block_ge HP2.out k hk))
              obtain ⟨a3, c3, rfl⟩ := own_form own3
              clear own3 hg3 hm3
              go_wp2
              go_roundw
              case rel =>
                refine ⟨k + 1, by omega, by go_num, ?_, HB3.out⟩
                have e1 : (covL l hs).take (k + 1) = (covL l hs).take k ++ [covP hs x.pc] := by
                  rw [List.take_add_one, covL_at HX.out]
                  rfl
                rw [e1]
                exact HLM.out
              case measure => simp [intOf]; omega
        · obtain rfl : k = l.length := by omega
          go_wp2
          go_ret2
          refine ⟨_, by rw [HE0.out]; rfl, ?_, HBE.out⟩
          unfold covA
          rw [if_pos HE0.out]
          have := HOW.out
          rw [List.take_of_length_le (by simp [covL])] at this
          exact this
end Go.Proofs.Ytbeelcklbdnjnaa
