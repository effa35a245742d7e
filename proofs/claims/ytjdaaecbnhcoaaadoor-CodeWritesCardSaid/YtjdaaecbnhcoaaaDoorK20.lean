/-
  WALK: instructions as bytes, as the document writes them.
-/
import Derived.Test.YtjdaaecbnhcoaaaDoorK19
import Derived.Test.YtjdaaecbnhcoaaaDoorK16
set_option linter.unusedVariables false
set_option linter.unusedSimpArgs false
namespace Go.Proofs.YtjdaaecbnhcoaaaDoor
open Go.RowKit

theorem two_more {w : World} {base : Nat} {v : Value} {l : List UInt8} {n : Int} {N : Nat} (h : w.ownsRow base 5 1 v N (bcells l ++ [.int .u8 (n / 256 % 256), .int .u8 (n % 256)])) : OwnB w base v (l ++ beN 2 n) := by
  unfold OwnB
  have e1 : bcells (beN 2 n) = [.int .u8 (n / 256 % 256), .int .u8 (n % 256)] := by
    have h1 := byteAt_val n 1 (n / 256 % 256) (by simp)
    have h0 := byteAt_val n 0 (n % 256) (by simp)
    have e : beN 2 n = [byteAt n 1] ++ [byteAt n 0] := rfl
    rw [e, bcells_append, h1, h0]
    rfl
  have hN : N = (l ++ beN 2 n).length := by
    have := h.1
    simp only [List.length_append, bcells, List.length_map, List.length_cons, List.length_nil, Nat.mul_one] at this
    rw [List.length_append, beN_length]
    omega
  rw [bcells_append, e1, ← hN]
  exact h
theorem one_more {w : World} {base : Nat} {v : Value} {l : List UInt8} {n : Int} {N : Nat} (h : w.ownsRow base 5 1 v N (bcells l ++ [.int .u8 (n % 256)])) : OwnB w base v (l ++ beN 1 n) := by
  have hN : N = l.length + 1 := by
    have := h.1
    simp only [List.length_append, bcells, List.length_map, List.length_cons, List.length_nil, Nat.mul_one] at this
    omega
  exact OwnB.more h (byteAt_val n 0 (n % 256) (by simp)) hN
set_option maxRecDepth 1000000 in
set_option maxHeartbeats 12800000 in
theorem refEncode_any (B : Nat) (l : List In) (v : Value) (w : World) (hr : NRow B w v l) (hB : B ≤ w.heap.size) (hlen : l.length ≤ 1000000000000000) (hks : ∀ x ∈ l, x.keys.length ≤ 1000000000000000) :
    Calls Tryd.prog 26 #[v] w (EncE w l) := by
  obtain ⟨A, cap, rfl, hc, hm⟩ := hr.form
  unfold maxLen at hm
  have HR := Lib.hid hr
  have HKS := Lib.hid hks
  have BAD := Lib.hid (show ∀ (e : Int) (w' : World), encE l = e → e ≠ 0 → Below w.heap.size w w' → EncE w l (.returned (.tuple #[.string ⟨#[]⟩, .int .i64 e])) w' from fun e w' h1 h2 h3 => by
    unfold EncE encS
    rw [h1, if_neg h2]
    exact ⟨rfl, h3⟩)
  clear hr hks
  go_enter Tryd.func26, Tryd.ntmps26
  go_wp2
  go_loopg [4, 5] l.length (fun g u4 u5 wx => ∃ (k pc : Nat), u5 = .int .i64 k ∧ u4 = .int .i64 pc ∧ k + g = l.length ∧ runE 0 l = runE pc (l.drop k) ∧ pc ≤ 4093 * k ∧ Below w.heap.size w wx)
  case atStart => exact ⟨0, 0, rfl, rfl, by omega, rfl, by omega, Below.refl _ _⟩
  case round =>
    obtain ⟨k, pc, rfl, rfl, hkg, hrun, hpc, hb⟩ := hrel
    have HRUN := Lib.hid hrun
    have BE := Lib.hid hb
    have hsz := hb.size
    clear hrun hb
    by_cases hlt : k < l.length
    · have hgg : gk - 1 < gk := by omega
      have hx := List.getElem?_eq_getElem hlt
      generalize l[k] = x at hx
      have HX := Lib.hid hx
      have hrow := (HR.out.below BE.out hB).at_ hx
      obtain ⟨b, o, Ak, ck, At, ct, rfl, hbB, hki, hti, c0, c1, c2, c3, c4⟩ := hrow
      have hkl := HKS.out x (List.mem_of_getElem? hx)
      have hbw : b < wr.heap.size := by omega
      have HRT := right_any B x Ak At ck ct pc wr hkl hki (by omega)
      unfold RightE at HRT
      by_cases he : errP x pc = 0
      · have hrn := runE_next HX.out HRUN.out
        rw [if_pos he] at hrn
        have HRN := Lib.hid hrn
        obtain ⟨e1, e2, e3⟩ := good_parts (errP_ok he).1
        have hwd := wid_bd e3
        rw [he, if_pos rfl] at HRT
        obtain ⟨wd, hwdd⟩ : ∃ n, widP x = n := ⟨_, rfl⟩
        rw [hwdd] at HRT hwd HRN
        have HRT := Lib.hid HRT
        clear hrn he hx hki hti e1 e2 e3 hwdd
        go_wp2_with fail
        refine HRT.out.mono ?_
        rintro e w1 ⟨rfl, hb1⟩
        have B1 := Lib.hid (BE.out.trans (hb1.mono hsz))
        clear hb1 c0 c1 c2 c3 c4
        go_wp2
        go_roundg (gk - 1)
        case measure => exact hgg
        case rel => exact ⟨k + 1, pc + wd, by go_num, by go_num, by omega, HRN.out, by omega, B1.out⟩
      · have hrn := runE_next HX.out HRUN.out
        rw [if_neg he] at hrn
        have HEE := Lib.hid (show encE l = errP x pc by unfold encE; rw [hrn, if_pos he])
        rw [if_neg he] at HRT
        obtain ⟨f, hf⟩ : ∃ f, errP x pc = f := ⟨_, rfl⟩
        rw [hf] at HRT HEE he
        have HNE := Lib.hid he
        have HRT := Lib.hid HRT
        have e3 : (f == 0) = false := by simpa using he
        clear hrn he hx hki hti hf
        go_wp2_with fail
        refine HRT.out.mono ?_
        rintro e w1 ⟨rfl, hb1⟩
        have B1 := Lib.hid (BE.out.trans (hb1.mono hsz))
        clear hb1 c0 c1 c2 c3 c4
        go_wp2
        go_ret2
        exact BAD.out f _ HEE.out HNE.out B1.out
    · obtain rfl : k = l.length := by omega
      have hrl : runE 0 l = (0, pc) := by rw [HRUN.out, List.drop_length]; rfl
      have HRL := Lib.hid hrl
      clear hrl
      by_cases hne : l = []
      · have hpc0 : pc = 0 := by
          have := HRL.out
          rw [hne] at this
          simp only [runE, Prod.mk.injEq, true_and] at this
          exact this.symm
        have HEE := Lib.hid (show encE l = 5 by unfold encE; rw [HRL.out, hpc0]; rfl)
        have hl1 : (l.length : Int) < 1 := by rw [hne]; simp
        have hz : ((l.length : Int) == 0) = true := by rw [hne]; rfl
        have hl0 : l.length < 1 := by omega
        clear hpc0
        go_wp2
        go_ret2
        exact BAD.out 5 _ HEE.out (by decide) BE.out
      · have hl1 : 0 < l.length := List.length_pos_iff.2 hne
        have hz : ((l.length : Int) == 0) = false := by simpa using hne
        obtain ⟨hlp, hpl⟩ := runE_ok l 0 pc HRL.out
        have hpc1 : 1 ≤ pc := by omega
        have HNL := Lib.hid hne
        by_cases hp4 : pc ≤ 4096
        · have hlp0 : lenP pc = 0 := by unfold lenP; rw [if_neg (by omega), if_neg (by omega)]
          have HLP := Lib.hid hlp0
          have hpcs : PcsN pc l := fun x hx => by have := hpl x hx; omega
          have HFL := Lib.hid (refFlow_any B pc l _ wr (HR.out.below BE.out hB) (by omega) hne (by omega) hpcs)
          obtain ⟨f, hf⟩ : ∃ f, flowP l = f := ⟨_, rfl⟩
          rw [hf] at HFL
          have HEE := Lib.hid (show encE l = f by unfold encE; rw [HRL.out]; simp [HLP.out, hf])
          have HFF := Lib.hid hf
          clear hpl hpcs hf hlp0 hne
          by_cases hf0 : f = 0
          · subst hf0
            have HFI := Lib.hid (fine_all HRL.out hp4 HFF.out)
            have HES := Lib.hid (show encS l = ⟨(l.flatMap encB).toArray⟩ by unfold encS; rw [HEE.out, if_pos rfl])
            have hl4 : l.length ≤ 4096 := by omega
            go_wp2_with fail
            refine HFL.out.mono ?_
            rintro e w6 ⟨rfl, hb6⟩
            have B6 := Lib.hid (BE.out.trans (hb6.mono hsz))
            have hz6 : w.heap.size ≤ w6.heap.size := B6.out.size
            obtain ⟨i0, hi, hz0, hz1, hz2⟩ := info5
            obtain ⟨base, hbase⟩ : ∃ b, b = w6.heap.size := ⟨_, rfl⟩
            rw [← hbase] at hz6
            have hbB : B ≤ base := by omega
            have hb6' : base ≤ w6.heap.size := by omega
            have HBA := Lib.hid hbase
            have R6 := Lib.hid (HR.out.below B6.out hB)
            clear hb6 hbase
            go_wp2
            go_loopg [9, 10] l.length (fun g u9 u10 wx => ∃ k : Nat, u10 = .int .i64 k ∧ k + g = l.length ∧ OwnB wx base u9 ((l.take k).flatMap encB) ∧ Kept 5 base w6 wx)
            case atStart => exact ⟨0, rfl, by omega, OwnB.nil _ _, Kept.refl _ _ _⟩
            case round =>
              obtain ⟨k, rfl, hkg2, hown, hkw⟩ := hrel
              obtain ⟨wo, hwo⟩ : ∃ wo, wo = wr := ⟨_, rfl⟩
              subst hwo
              obtain ⟨g0, hg0⟩ : ∃ g, g = gk := ⟨_, rfl⟩
              subst hg0
              obtain ⟨lk, hlk⟩ : ∃ m, (l.take k).flatMap encB = m := ⟨_, rfl⟩
              have hlkl : ((l.take k).flatMap encB).length ≤ 5000 * (l.take k).length := enc_le _ fun x hx => HFI.out x (List.mem_of_mem_take hx)
              rw [List.length_take] at hlkl
              rw [hlk] at hown hlkl
              have HLK := Lib.hid hlk
              have OR := Lib.hid hown
              have KW := Lib.hid hkw
              have hbW : base ≤ wo.heap.size := by have := hkw.size; omega
              obtain ⟨ab, cb, rfl⟩ := hown.slice
              clear hown hkw hlk
              by_cases hlt2 : k < l.length
              · have hgg2 : g0 - 1 < g0 := by omega
                have hx := List.getElem?_eq_getElem hlt2
                generalize l[k] = x at hx
                have hrow := (R6.out.below KW.out.below hbB).at_ hx
                obtain ⟨b, o, Ak, ck, At, ct, rfl, hbB2, hki, hti, c0, c1, c2, c3, c4⟩ := hrow
                have hbw : b < wo.heap.size := by omega
                have HN := Lib.hid (show (l.take (k + 1)).flatMap encB = lk ++ encB x by
                  obtain ⟨hk', rfl⟩ := List.getElem?_eq_some_iff.1 hx
                  rw [List.take_succ_eq_append_getElem hk', List.flatMap_append, HLK.out]
                  simp)
                have FI := Lib.hid (HFI.out x (List.mem_of_getElem? hx))
                have hkey := FI.out.key
                have HKR := Lib.hid (show IRow B w6 _ x.keys from Row.keep hki fun p hp => (KW.out.below.cell (p := p) (by omega)).symm)
                have HTR := Lib.hid (show IRow B w6 _ x.to from Row.keep hti fun p hp => (KW.out.below.cell (p := p) (by omega)).symm)
                have KA := Lib.hid (KW.out.alloc hbW (.cells #[.int .i64 x.pc, .int .i64 x.op, .int .i64 x.n, .slice Ak x.keys.length ck, .slice At x.to.length ct] 43))
                have HM := Lib.hid (heap_new wo (.cells #[.int .i64 x.pc, .int .i64 x.op, .int .i64 x.n, .slice Ak x.keys.length ck, .slice At x.to.length ct] 43))
                obtain ⟨f, hf⟩ : ∃ f, formP x.op = f := ⟨_, rfl⟩
                have HFO := fun W => Lib.hid (refForm_any x.op W)
                rw [hf] at HFO
                have hfi := formP_in x.op
                rw [hf] at hfi
                have HF := Lib.hid hf
                have HBX := Lib.hid (heap_alloc_lt (o := (.cells #[.int .u8 (x.op % 256)] 5)) HM.out)
                have hlk1 : lk.length ≤ 50000000 := by omega
                clear hx hki hti hf hlkl
                go_wp2_with (at_builtin; refine wpList_append_own _ rfl (.tmp 55) (.tmp 59) 46 rfl base 5 i0 (.int .u8 0) 1 1 Tryd.underlying46 hi hz0 hz1 hz2 rfl (by decide) _ _ _ rfl (OwnB.app ((OR.out.alloc (.cells #[.int .i64 x.pc, .int .i64 x.op, .int .i64 x.n, .slice Ak x.keys.length ck, .slice At x.to.length ct] 43)).alloc (.cells #[.int .u8 (x.op % 256)] 5))) ⟨_, 0, none⟩ 1 1 [.int .u8 ((x.op) % 256)] rfl rfl ?ar0 ?br0 ?cr0 ?dr0 ?er0 ?_)
                case ar0 => exact new_at _ [.int .u8 ((x.op) % 256)] 5 _ (by first | rfl | (simp; done))
                case br0 => exact int_cells .u8 [(x.op) % 256]
                case cr0 => unfold maxLen; omega
                case dr0 => omega
                case er0 => simp; omega
                intro v1 w1 hown1 hg1 _
                have hk1 := own_grown (OwnB.app ((OR.out.alloc (.cells #[.int .i64 x.pc, .int .i64 x.op, .int .i64 x.n, .slice Ak x.keys.length ck, .slice At x.to.length ct] 43)).alloc (.cells #[.int .u8 (x.op % 256)] 5))) (by simp; omega) hg1
                have O1 := Lib.hid (one_more hown1)
                have K1 := Lib.hid ((KA.out.alloc (by simp; omega) (.cells #[.int .u8 (x.op % 256)] 5)).trans hk1)
                have MB := hk1.other _ _ _ _ (by decide) HBX.out
                obtain ⟨a1, cp1, rfl⟩ := own_form hown1
                have K1s := K1.out.size
                have hbW : base ≤ w1.heap.size := by omega
                obtain ⟨l1, hl1e⟩ : ∃ m, lk ++ beN 1 x.op = m := ⟨_, rfl⟩
                have hl1 : (lk ++ beN 1 x.op).length ≤ 50000001 := by rw [List.length_append, beN_length]; omega
                rw [hl1e] at O1 hl1
                have HL1 := Lib.hid hl1e
                have c0 := cells_of MB 0
                have c1 := cells_of MB 1
                have c2 := cells_of MB 2
                have c3 := cells_of MB 3
                have c4 := cells_of MB 4
                simp at c0 c1 c2 c3 c4
                have HMB := Lib.hid MB
                have hNl := lt_of_block MB
                clear hown1 hk1 MB hl1e hg1 K1s HBX HM KA
                go_wp2_with fail
                refine (HFO _).out.mono ?_
                rintro e w3 ⟨rfl, rfl⟩
                rcases hfi with rfl | rfl | rfl | rfl | rfl | rfl
                · have HE := Lib.hid (show lk ++ encB x = l1 by unfold encB tailB; rw [HF.out, ← HL1.out]; simp)
                  go_wp2
                  go_roundg (g0 - 1)
                  case measure => exact hgg2
                  case rel => exact ⟨k + 1, by go_num, by omega, by rw [HN.out, HE.out]; exact O1.out, K1.out⟩
                · have hjm : x.to.length = x.keys.length + 1 := by rw [FI.out.jm]; unfold jmpP; rw [HF.out]; rfl
                  have hu := List.getElem?_eq_getElem (show 0 < x.to.length by omega)
                  generalize x.to[0]'(by omega) = t0 at hu
                  have HU := Lib.hid hu
                  have hT1 := HTR.out.below K1.out.below hbB
                  obtain ⟨b2, o2, rfl, hb2B, t0c⟩ := hT1.at_ hu
                  simp only [Nat.add_zero] at t0c
                  have hbd := FI.out.tos t0 (List.mem_of_getElem? hu)
                  have hpd := FI.out.pc
                  have hb2b : b2 < base := by omega
                  have hb2w : b2 < w1.heap.size := by omega
                  have hto0 : (0 : Int) < (x.to.length : Int) := by omega
                  have hto0n : 0 < x.to.length := by omega
                  have KW := K1
                  have MB := HMB.out
                  have hml : l1.length + 2 ≤ maxLen := by unfold maxLen; omega
                  have hmb : (l1.length + 2) * 1 ≤ 140737488355328 := by omega
                  have hbA : ∀ o, base ≤ (w1.drew.alloc o).heap.size := fun o => by show base ≤ (w1.alloc o).heap.size; simp; omega
                  have hwr : IntKind.i64.wrap (t0 - x.pc) = t0 - x.pc := IntWalk.i64_in _ (by omega)
                  clear hu hT1
                  have HJM := Lib.hid hjm
                  clear hjm
                  go_wp2
                  refine wp_region_held_drew (S := (fun w' => w'.heap[wo.heap.size]? = some (.cells #[.int .i64 x.pc, .int .i64 x.op, .int .i64 x.n, .slice Ak x.keys.length ck, .slice (some ⟨b2, o2, none⟩) x.to.length ct] 43 (0, 0)) ∧ w'.cell? ⟨wo.heap.size, 0, none⟩ = some (.int .i64 x.pc) ∧ w'.cell? ⟨wo.heap.size, 3, none⟩ = some (.slice Ak x.keys.length ck) ∧ w'.cell? ⟨wo.heap.size, 4, none⟩ = some (.slice (some ⟨b2, o2, none⟩) x.to.length ct) ∧ w'.cell? ⟨b2, o2, none⟩ = some (.int .i64 t0) ∧ Kept 5 base w6 w')) (by kernel_rfl) (⟨MB, cells_of MB 0, cells_of MB 3, cells_of MB 4, t0c, KW.out.drew⟩) (fun hHeld => ?_)
                  refine wpAnyH_take (i := 0) (oi := ({ dst := some 93, op := Op.move (Operand.tmp 9), type := 46, pos := "ref.go:236", after := #[], guard := none } : Oper)) (v := ?v2x0) rfl (by kernel_rfl) (by kernel_rfl) (by kernel_rfl) (fun _ _ _ h => h) (Or.inl ⟨by rfl, ?hy2x0⟩) hHeld ?_
                  case hy2x0 => ((intro w hSw); (try dsimp only at hSw); go_simp; try with_reducible rfl)
                  try simp only [Act.put, List.setIfInBounds_toArray, List.set_cons_zero, List.set_cons_succ]
                  refine wpAnyH_take (i := 1) (oi := ({ dst := some 94, op := Op.fieldAddr 43 (Operand.tmp 11) 4, type := 0, pos := "ref.go:236", after := #[], guard := none } : Oper)) (v := ?v2x1) rfl (by kernel_rfl) (by kernel_rfl) (by kernel_rfl) (fun _ _ _ h => h) (Or.inl ⟨by rfl, ?hy2x1⟩) hHeld ?_
                  case hy2x1 => ((intro w hSw); (try dsimp only at hSw); go_simp; try with_reducible rfl)
                  try simp only [Act.put, List.setIfInBounds_toArray, List.set_cons_zero, List.set_cons_succ]
                  refine wpAnyH_take (i := 2) (oi := ({ dst := some 95, op := Op.load 41 (Operand.tmp 94), type := 41, pos := "ref.go:236", after := #[{ on := 1, ground := Ground.data }], guard := none } : Oper)) (v := ?v2x2) rfl (by kernel_rfl) (by kernel_rfl) (by kernel_rfl) (fun _ _ _ h => h) (Or.inl ⟨by rfl, ?hy2x2⟩) hHeld ?_
                  case hy2x2 => ((intro w hSw); (try dsimp only at hSw); go_simp; try with_reducible rfl)
                  try simp only [Act.put, List.setIfInBounds_toArray, List.set_cons_zero, List.set_cons_succ]
                  refine wpAnyH_take (i := 3) (oi := ({ dst := some 96, op := Op.indexAddr 41 (Operand.tmp 95) (Operand.const (Value.int IntKind.i64 0)), type := 0, pos := "ref.go:236", after := #[{ on := 2, ground := Ground.data }], guard := none } : Oper)) (v := ?v2x3) rfl (by kernel_rfl) (by kernel_rfl) (by kernel_rfl) (fun _ _ _ h => h) (Or.inl ⟨by rfl, ?hy2x3⟩) hHeld ?_
                  case hy2x3 => ((intro w hSw); (try dsimp only at hSw); go_simp; try with_reducible rfl)
                  try simp only [Act.put, List.setIfInBounds_toArray, List.set_cons_zero, List.set_cons_succ]
                  refine wpAnyH_take (i := 4) (oi := ({ dst := some 97, op := Op.load 3 (Operand.tmp 96), type := 3, pos := "ref.go:236", after := #[{ on := 3, ground := Ground.data }], guard := none } : Oper)) (v := ?v2x4) rfl (by kernel_rfl) (by kernel_rfl) (by kernel_rfl) (fun _ _ _ h => h) (Or.inl ⟨by rfl, ?hy2x4⟩) hHeld ?_
                  case hy2x4 => ((intro w hSw); (try dsimp only at hSw); go_simp; try with_reducible rfl)
                  try simp only [Act.put, List.setIfInBounds_toArray, List.set_cons_zero, List.set_cons_succ]
                  refine wpAnyH_take (i := 5) (oi := ({ dst := some 98, op := Op.fieldAddr 43 (Operand.tmp 11) 0, type := 0, pos := "ref.go:236", after := #[], guard := none } : Oper)) (v := ?v2x5) rfl (by kernel_rfl) (by kernel_rfl) (by kernel_rfl) (fun _ _ _ h => h) (Or.inl ⟨by rfl, ?hy2x5⟩) hHeld ?_
                  case hy2x5 => ((intro w hSw); (try dsimp only at hSw); go_simp; try with_reducible rfl)
                  try simp only [Act.put, List.setIfInBounds_toArray, List.set_cons_zero, List.set_cons_succ]
                  refine wpAnyH_take (i := 6) (oi := ({ dst := some 99, op := Op.load 3 (Operand.tmp 98), type := 3, pos := "ref.go:236", after := #[{ on := 5, ground := Ground.data }], guard := none } : Oper)) (v := ?v2x6) rfl (by kernel_rfl) (by kernel_rfl) (by kernel_rfl) (fun _ _ _ h => h) (Or.inl ⟨by rfl, ?hy2x6⟩) hHeld ?_
                  case hy2x6 => ((intro w hSw); (try dsimp only at hSw); go_simp; try with_reducible rfl)
                  try simp only [Act.put, List.setIfInBounds_toArray, List.set_cons_zero, List.set_cons_succ]
                  refine wpAnyH_take (i := 7) (oi := ({ dst := some 100, op := Op.binOp BinOp.sub 3 (Operand.tmp 97) (Operand.tmp 99) 3, type := 3, pos := "ref.go:236", after := #[{ on := 4, ground := Ground.data }, { on := 6, ground := Ground.data }], guard := none } : Oper)) (v := ?v2x7) rfl (by kernel_rfl) (by kernel_rfl) (by kernel_rfl) (fun _ _ _ h => h) (Or.inl ⟨by rfl, ?hy2x7⟩) hHeld ?_
                  case hy2x7 => ((intro w hSw); (try dsimp only at hSw); go_simp; try with_reducible rfl)
                  try simp only [Act.put, List.setIfInBounds_toArray, List.set_cons_zero, List.set_cons_succ]
                  refine wpAnyH_ready (rs := [8]) (by kernel_rfl) (by simp) ?_
                  refine AllReadyH.cons (o := ({ dst := some 101, op := Op.call { callee := Callee.value (Operand.func 40), args := #[Operand.tmp 100], argTypes := #[3] }, type := 46, pos := "ref.go:236", after := #[{ on := 7, ground := Ground.data }], guard := none } : Oper)) rfl (fun K hK => ?_) AllReadyH.nil
                  go_simp
                  go_at_call 40
                  refine (bytes_any (t0 - x.pc) _).mono ?_
                  rintro e w9 ⟨rfl, rfl⟩
                  try go_wp2_with fail
                  have hM2 := heap_alloc_lt (o := (.cells #[.int .u8 ((t0 - x.pc) / 256 % 256), .int .u8 ((t0 - x.pc) % 256)] 5)) hHeld.1
                  have hT2 := (World.cell?_alloc_lt w1.drew (.cells #[.int .u8 ((t0 - x.pc) / 256 % 256), .int .u8 ((t0 - x.pc) % 256)] 5) ⟨b2, o2, none⟩ hb2w).trans hHeld.2.2.2.2.1
                  have hK2 := hHeld.2.2.2.2.2.alloc hbW (.cells #[.int .u8 ((t0 - x.pc) / 256 % 256), .int .u8 ((t0 - x.pc) % 256)] 5)
                  refine hK.out _ _ ⟨hM2, cells_of hM2 0, cells_of hM2 3, cells_of hM2 4, hT2, hK2⟩ (fun hHeld1 => ?_)
                  clear hK K hHeld
                  try simp only [Act.put, List.setIfInBounds_toArray, List.set_cons_zero, List.set_cons_succ]
                  refine wpAnyH_ready (rs := [9]) (by kernel_rfl) (by simp) ?_
                  refine AllReadyH.cons (o := ({ dst := some 102, op := Op.call { callee := Callee.builtin Builtin.append, args := #[Operand.tmp 93, Operand.tmp 101], argTypes := #[46, 46] }, type := 46, pos := "ref.go:236", after := #[{ on := 0, ground := Ground.data }, { on := 8, ground := Ground.data }, { on := 8, ground := Ground.chain }], guard := none } : Oper)) rfl (fun K hK => ?_) AllReadyH.nil
                  refine step_append_own2 rfl (.tmp 93) (.tmp 101) 46 rfl base 5 i0 (.int .u8 0) 1 1 Tryd.underlying46 hi hz0 hz1 hz2 rfl (by decide) _ _ _ rfl (OwnB.app (OwnB.alloc (w := w1.drew) O1.out (.cells #[.int .u8 ((t0 - x.pc) / 256 % 256), .int .u8 ((t0 - x.pc) % 256)] 5))) ⟨_, 0, none⟩ 2 2 [.int .u8 ((t0 - x.pc) / 256 % 256), .int .u8 ((t0 - x.pc) % 256)] rfl rfl (new_at _ [.int .u8 ((t0 - x.pc) / 256 % 256), .int .u8 ((t0 - x.pc) % 256)] 5 _ (by first | rfl | (simp; done))) (int_cells .u8 [(t0 - x.pc) / 256 % 256, (t0 - x.pc) % 256]) hml hmb (hbA _) ?_
                  intro v9 w9 hown9 hg9 _
                  have hk9 := OwnB.grown (w := w1.drew) O1.out hbW hg9
                  have hkk := own_grown (OwnB.app (OwnB.alloc (w := w1.drew) O1.out (.cells #[.int .u8 ((t0 - x.pc) / 256 % 256), .int .u8 ((t0 - x.pc) % 256)] 5))) (hbA _) hg9
                  have hM3 := hkk.other _ _ _ _ (by decide) hHeld1.1
                  have hT3 := (hkk.below.cell (p := ⟨b2, o2, none⟩) hb2b).trans hHeld1.2.2.2.2.1
                  have hK3 := hHeld1.2.2.2.2.2.trans hkk
                  obtain ⟨a9, c9, rfl⟩ := own_form hown9
                  refine hK.out _ _ ⟨hM3, cells_of hM3 0, cells_of hM3 3, cells_of hM3 4, hT3, hK3⟩ (fun hHeld2 => ?_)
                  clear hK K hHeld1
                  try simp only [Act.put, List.setIfInBounds_toArray, List.set_cons_zero, List.set_cons_succ]
                  refine wpAnyH_take (i := 10) (oi := ({ dst := some 9, op := Op.assign (Operand.tmp 102), type := 46, pos := "ref.go:236", after := #[{ on := 9, ground := Ground.data }, { on := 9, ground := Ground.chain }, { on := 0, ground := Ground.phase }, { on := 1, ground := Ground.phase }, { on := 2, ground := Ground.phase }, { on := 3, ground := Ground.phase }, { on := 4, ground := Ground.phase }, { on := 5, ground := Ground.phase }, { on := 6, ground := Ground.phase }, { on := 7, ground := Ground.phase }, { on := 8, ground := Ground.phase }, { on := 9, ground := Ground.phase }], guard := none } : Oper)) (v := ?v2x10) rfl (by kernel_rfl) (by kernel_rfl) (by kernel_rfl) (fun _ _ _ h => h) (Or.inl ⟨by rfl, ?hy2x10⟩) hHeld2 ?_
                  case hy2x10 => ((intro w hSw); (try dsimp only at hSw); go_simp; try with_reducible rfl)
                  try simp only [Act.put, List.setIfInBounds_toArray, List.set_cons_zero, List.set_cons_succ]
                  refine wpAnyH_done (by kernel_rfl) ?_ _
                  have O9 := Lib.hid (two_more hown9)
                  have K9 := Lib.hid hK3
                  have M9 := hM3
                  clear hHeld2 hM2 hT2 hK2 hM3 hT3 hK3 hown9 hk9 hkk hg9
                  have hl2 : (l1 ++ beN 2 (t0 - x.pc)).length ≤ 50000003 := by rw [List.length_append, beN_length]; omega
                  obtain ⟨l2, hl2e⟩ : ∃ m, l1 ++ beN 2 (t0 - x.pc) = m := ⟨_, rfl⟩
                  rw [hl2e] at O9 hl2
                  have HL2 := Lib.hid hl2e
                  have K9s := K9.out.size
                  have hbW9 : base ≤ w9.heap.size := by omega
                  have d3 := cells_of M9 3
                  have hN9 := lt_of_block M9
                  have HM9 := Lib.hid (heap_alloc_lt (o := (.cells #[.int .u8 (((x.keys.length : Int)) / 256 % 256), .int .u8 (((x.keys.length : Int)) % 256)] 5)) M9)
                  simp at d3
                  clear hl2e c0 c1 c2 c3 c4 t0c hwr MB hb2w M9 hml hmb hbA K9s
                  go_wp2_with fail
                  refine (bytes_any (x.keys.length : Int) _).mono ?_
                  rintro e w5 ⟨rfl, rfl⟩
                  go_wp2_with (at_builtin; refine wpList_append_own _ rfl (.tmp 103) (.tmp 107) 46 rfl base 5 i0 (.int .u8 0) 1 1 Tryd.underlying46 hi hz0 hz1 hz2 rfl (by decide) _ _ _ rfl (OwnB.app (O9.out.alloc _)) ⟨_, 0, none⟩ 2 2 [.int .u8 (((x.keys.length : Int)) / 256 % 256), .int .u8 (((x.keys.length : Int)) % 256)] rfl rfl ?ak1 ?bk1 ?ck1 ?dk1 ?ek1 ?_)
                  case ak1 => exact new_at _ [.int .u8 (((x.keys.length : Int)) / 256 % 256), .int .u8 (((x.keys.length : Int)) % 256)] 5 _ (by first | rfl | (simp; done))
                  case bk1 => exact int_cells .u8 [((x.keys.length : Int)) / 256 % 256, ((x.keys.length : Int)) % 256]
                  case ck1 => unfold maxLen; omega
                  case dk1 => omega
                  case ek1 => simp; omega
                  intro v5 w5 hown5 hg5 _
                  have hkk := own_grown (OwnB.app (O9.out.alloc (.cells #[.int .u8 (((x.keys.length : Int)) / 256 % 256), .int .u8 (((x.keys.length : Int)) % 256)] 5))) (by simp; omega) hg5
                  have M5 := hkk.other _ _ _ _ (by decide) HM9.out
                  have O5 := Lib.hid (two_more hown5)
                  have K5 := Lib.hid ((K9.out.alloc hbW9 (.cells #[.int .u8 (((x.keys.length : Int)) / 256 % 256), .int .u8 (((x.keys.length : Int)) % 256)] 5)).trans hkk)
                  obtain ⟨a5, c5, rfl⟩ := own_form hown5
                  have HM5 := Lib.hid M5
                  have hl3 : (l2 ++ beN 2 (x.keys.length : Int)).length ≤ 50000005 := by rw [List.length_append, beN_length]; omega
                  obtain ⟨l3, hl3e⟩ : ∃ m, l2 ++ beN 2 (x.keys.length : Int) = m := ⟨_, rfl⟩
                  rw [hl3e] at O5 hl3
                  have HL3 := Lib.hid (show l3 = (lk ++ beN 1 x.op) ++ (beN 2 (x.to.getD 0 0 - x.pc) ++ beN 2 x.keys.length) by rw [← hl3e, ← HL2.out, ← HL1.out]; simp [List.getD, HU.out])
                  clear hown5 hg5 hkk M5 hl3e d3
                  go_wp2
                  go_loopg [9, 12] x.keys.length (fun g bv iv wx => ∃ m : Nat, iv = .int .i64 m ∧ m + g = x.keys.length ∧ OwnB wx base bv (l3 ++ keysN x m) ∧ wx.heap[wo.heap.size]? = some (.cells #[.int .i64 x.pc, .int .i64 x.op, .int .i64 x.n, .slice Ak x.keys.length ck, .slice (some ⟨b2, o2, none⟩) x.to.length ct] 43 (0, 0)) ∧ Kept 5 base w6 wx)
                  case atStart => exact ⟨0, rfl, by omega, by simp [keysN]; exact O5.out, HM5.out, K5.out⟩
                  case round =>
                    obtain ⟨m, rfl, hmg, hown, MB, hkw⟩ := hrel
                    obtain ⟨lm, hlm⟩ : ∃ q, l3 ++ keysN x m = q := ⟨_, rfl⟩
                    have hlml : (l3 ++ keysN x m).length ≤ 50005000 := by rw [List.length_append, keysN_length]; omega
                    rw [hlm] at hown hlml
                    have HLM := Lib.hid hlm
                    have OM := Lib.hid hown
                    have KM := Lib.hid hkw
                    have hkws := hkw.size
                    have hbWm : base ≤ wr.heap.size := by omega
                    obtain ⟨am, cm, rfl⟩ := hown.slice
                    have hNr := lt_of_block MB
                    have d3 := cells_of MB 3
                    simp at d3
                    clear hown hkw hlm
                    by_cases hml3 : m < x.keys.length
                    · have hgg3 : gk - 1 < gk := by omega
                      have hy := List.getElem?_eq_getElem hml3
                      generalize x.keys[m] = kk at hy
                      have hu2 := List.getElem?_eq_getElem (show m + 1 < x.to.length by have := HJM.out; omega)
                      generalize x.to[m + 1]'(by have := HJM.out; omega) = tk at hu2
                      have hK1 := HKR.out.below KM.out.below hbB
                      obtain ⟨b3, o3, e3', hb3B, k0c⟩ := hK1.at_ hy
                      subst e3'
                      have hb3w : b3 < wr.heap.size := by omega
                      have HMm := Lib.hid (heap_alloc_lt (o := (.cells #[.int .u8 ((kk) / 256 % 256), .int .u8 ((kk) % 256)] 5)) MB)
                      have HKN := Lib.hid (show beN 2 kk ++ beN 2 (tk - x.pc) = keyN x m by unfold keyN; simp [List.getD, hy, hu2])
                      have HU2 := Lib.hid hu2
                      clear hy hu2 hK1 MB
                      go_wp2_with fail
                      refine (bytes_any kk _).mono ?_
                      rintro e w8 ⟨rfl, rfl⟩
                      go_wp2_with (at_builtin; refine wpList_append_own _ rfl (.tmp 116) (.tmp 122) 46 rfl base 5 i0 (.int .u8 0) 1 1 Tryd.underlying46 hi hz0 hz1 hz2 rfl (by decide) _ _ _ rfl (OwnB.app (OM.out.alloc _)) ⟨_, 0, none⟩ 2 2 [.int .u8 ((kk) / 256 % 256), .int .u8 ((kk) % 256)] rfl rfl ?ak2 ?bk2 ?ck2 ?dk2 ?ek2 ?_)
                      case ak2 => exact new_at _ [.int .u8 ((kk) / 256 % 256), .int .u8 ((kk) % 256)] 5 _ (by first | rfl | (simp; done))
                      case bk2 => exact int_cells .u8 [(kk) / 256 % 256, (kk) % 256]
                      case ck2 => unfold maxLen; omega
                      case dk2 => omega
                      case ek2 => simp; omega
                      intro v8 w8 hown8 hg8 _
                      have hkk := own_grown (OwnB.app (OM.out.alloc (.cells #[.int .u8 ((kk) / 256 % 256), .int .u8 ((kk) % 256)] 5))) (by simp; omega) hg8
                      have MB := hkk.other _ _ _ _ (by decide) HMm.out
                      have O8 := Lib.hid (two_more hown8)
                      have KW := Lib.hid ((KM.out.alloc hbWm (.cells #[.int .u8 ((kk) / 256 % 256), .int .u8 ((kk) % 256)] 5)).trans hkk)
                      have hkws := KW.out.size
                      have hbW : base ≤ w8.heap.size := by omega
                      have hl8 : (lm ++ beN 2 kk).length ≤ 50005002 := by rw [List.length_append, beN_length]; omega
                      obtain ⟨l8, hl8e⟩ : ∃ q, lm ++ beN 2 kk = q := ⟨_, rfl⟩
                      rw [hl8e] at O8 hl8
                      have HL8 := Lib.hid hl8e
                      obtain ⟨a8, c8, rfl⟩ := O8.out.slice
                      have hT1 := HTR.out.below KW.out.below hbB
                      obtain ⟨b4, o4, e4, hb4B, t0c⟩ := hT1.at_ HU2.out
                      injection e4 with e4
                      injection e4 with e4 e5
                      subst e4 e5
                      have hbd2 := FI.out.tos tk (List.mem_of_getElem? HU2.out)
                      have hpd2 := FI.out.pc
                      have hb2w : b2 < w8.heap.size := by omega
                      have hml : l8.length + 2 ≤ maxLen := by unfold maxLen; omega
                      have hmb : (l8.length + 2) * 1 ≤ 140737488355328 := by omega
                      have hbA : ∀ o, base ≤ (w8.drew.alloc o).heap.size := fun o => by show base ≤ (w8.alloc o).heap.size; simp; omega
                      have hw5 : (m : Int) + 1 < (x.to.length : Int) := by have := HJM.out; omega
                      have hw3 : 0 ≤ (m : Int) + 1 := by omega
                      have hwr : IntKind.i64.wrap (tk - x.pc) = tk - x.pc := IntWalk.i64_in _ (by omega)
                      have hw1 : IntKind.i64.wrap ((m : Int) + 1) = (m : Int) + 1 := IntWalk.i64_in _ (by omega)
                      have hw4 : ((m : Int) + 1).toNat = m + 1 := by omega
                      clear hown8 hg8 hkk hl8e hT1 k0c d3
                      go_wp2
                      refine wp_region_held_drew (S := (fun w' => w'.heap[wo.heap.size]? = some (.cells #[.int .i64 x.pc, .int .i64 x.op, .int .i64 x.n, .slice (some ⟨b3, o3, none⟩) x.keys.length ck, .slice (some ⟨b2, o2, none⟩) x.to.length ct] 43 (0, 0)) ∧ w'.cell? ⟨wo.heap.size, 0, none⟩ = some (.int .i64 x.pc) ∧ w'.cell? ⟨wo.heap.size, 3, none⟩ = some (.slice (some ⟨b3, o3, none⟩) x.keys.length ck) ∧ w'.cell? ⟨wo.heap.size, 4, none⟩ = some (.slice (some ⟨b2, o2, none⟩) x.to.length ct) ∧ w'.cell? ⟨b2, o2 + (m + 1), none⟩ = some (.int .i64 tk) ∧ Kept 5 base w6 w')) (by kernel_rfl) (⟨MB, cells_of MB 0, cells_of MB 3, cells_of MB 4, t0c, KW.out.drew⟩) (fun hHeld => ?_)
                      refine wpAnyH_take (i := 0) (oi := ({ dst := some 124, op := Op.move (Operand.tmp 9), type := 46, pos := "ref.go:240", after := #[], guard := none } : Oper)) (v := ?v3x0) rfl (by kernel_rfl) (by kernel_rfl) (by kernel_rfl) (fun _ _ _ h => h) (Or.inl ⟨by rfl, ?hy3x0⟩) hHeld ?_
                      case hy3x0 => ((intro w hSw); (try dsimp only at hSw); go_simp; try with_reducible rfl)
                      try simp only [Act.put, List.setIfInBounds_toArray, List.set_cons_zero, List.set_cons_succ]
                      refine wpAnyH_take (i := 1) (oi := ({ dst := some 125, op := Op.fieldAddr 43 (Operand.tmp 11) 4, type := 0, pos := "ref.go:240", after := #[], guard := none } : Oper)) (v := ?v3x1) rfl (by kernel_rfl) (by kernel_rfl) (by kernel_rfl) (fun _ _ _ h => h) (Or.inl ⟨by rfl, ?hy3x1⟩) hHeld ?_
                      case hy3x1 => ((intro w hSw); (try dsimp only at hSw); go_simp; try with_reducible rfl)
                      try simp only [Act.put, List.setIfInBounds_toArray, List.set_cons_zero, List.set_cons_succ]
                      refine wpAnyH_take (i := 2) (oi := ({ dst := some 126, op := Op.load 41 (Operand.tmp 125), type := 41, pos := "ref.go:240", after := #[{ on := 1, ground := Ground.data }], guard := none } : Oper)) (v := ?v3x2) rfl (by kernel_rfl) (by kernel_rfl) (by kernel_rfl) (fun _ _ _ h => h) (Or.inl ⟨by rfl, ?hy3x2⟩) hHeld ?_
                      case hy3x2 => ((intro w hSw); (try dsimp only at hSw); go_simp; try with_reducible rfl)
                      try simp only [Act.put, List.setIfInBounds_toArray, List.set_cons_zero, List.set_cons_succ]
                      refine wpAnyH_take (i := 3) (oi := ({ dst := some 127, op := Op.move (Operand.tmp 12), type := 3, pos := "ref.go:240", after := #[], guard := none } : Oper)) (v := ?v3x3) rfl (by kernel_rfl) (by kernel_rfl) (by kernel_rfl) (fun _ _ _ h => h) (Or.inl ⟨by rfl, ?hy3x3⟩) hHeld ?_
                      case hy3x3 => ((intro w hSw); (try dsimp only at hSw); go_simp; try with_reducible rfl)
                      try simp only [Act.put, List.setIfInBounds_toArray, List.set_cons_zero, List.set_cons_succ]
                      refine wpAnyH_take (i := 4) (oi := ({ dst := some 128, op := Op.binOp BinOp.add 3 (Operand.tmp 127) (Operand.const (Value.int IntKind.i64 1)) 3, type := 3, pos := "ref.go:240", after := #[{ on := 3, ground := Ground.data }], guard := none } : Oper)) (v := ?v3x4) rfl (by kernel_rfl) (by kernel_rfl) (by kernel_rfl) (fun _ _ _ h => h) (Or.inl ⟨by rfl, ?hy3x4⟩) hHeld ?_
                      case hy3x4 => ((intro w hSw); (try dsimp only at hSw); go_simp; try with_reducible rfl)
                      try simp only [Act.put, List.setIfInBounds_toArray, List.set_cons_zero, List.set_cons_succ]
                      refine wpAnyH_take (i := 5) (oi := ({ dst := some 129, op := Op.indexAddr 41 (Operand.tmp 126) (Operand.tmp 128), type := 0, pos := "ref.go:240", after := #[{ on := 2, ground := Ground.data }, { on := 4, ground := Ground.data }], guard := none } : Oper)) (v := ?v3x5) rfl (by kernel_rfl) (by kernel_rfl) (by kernel_rfl) (fun _ _ _ h => h) (Or.inl ⟨by rfl, ?hy3x5⟩) hHeld ?_
                      case hy3x5 => ((intro w hSw); (try dsimp only at hSw); go_simp; try with_reducible rfl)
                      try simp only [Act.put, List.setIfInBounds_toArray, List.set_cons_zero, List.set_cons_succ]
                      refine wpAnyH_take (i := 6) (oi := ({ dst := some 130, op := Op.load 3 (Operand.tmp 129), type := 3, pos := "ref.go:240", after := #[{ on := 5, ground := Ground.data }], guard := none } : Oper)) (v := ?v3x6) rfl (by kernel_rfl) (by kernel_rfl) (by kernel_rfl) (fun _ _ _ h => h) (Or.inl ⟨by rfl, ?hy3x6⟩) hHeld ?_
                      case hy3x6 => ((intro w hSw); (try dsimp only at hSw); go_simp; try with_reducible rfl)
                      try simp only [Act.put, List.setIfInBounds_toArray, List.set_cons_zero, List.set_cons_succ]
                      refine wpAnyH_take (i := 7) (oi := ({ dst := some 131, op := Op.fieldAddr 43 (Operand.tmp 11) 0, type := 0, pos := "ref.go:240", after := #[], guard := none } : Oper)) (v := ?v3x7) rfl (by kernel_rfl) (by kernel_rfl) (by kernel_rfl) (fun _ _ _ h => h) (Or.inl ⟨by rfl, ?hy3x7⟩) hHeld ?_
                      case hy3x7 => ((intro w hSw); (try dsimp only at hSw); go_simp; try with_reducible rfl)
                      try simp only [Act.put, List.setIfInBounds_toArray, List.set_cons_zero, List.set_cons_succ]
                      refine wpAnyH_take (i := 8) (oi := ({ dst := some 132, op := Op.load 3 (Operand.tmp 131), type := 3, pos := "ref.go:240", after := #[{ on := 7, ground := Ground.data }], guard := none } : Oper)) (v := ?v3x8) rfl (by kernel_rfl) (by kernel_rfl) (by kernel_rfl) (fun _ _ _ h => h) (Or.inl ⟨by rfl, ?hy3x8⟩) hHeld ?_
                      case hy3x8 => ((intro w hSw); (try dsimp only at hSw); go_simp; try with_reducible rfl)
                      try simp only [Act.put, List.setIfInBounds_toArray, List.set_cons_zero, List.set_cons_succ]
                      refine wpAnyH_take (i := 9) (oi := ({ dst := some 133, op := Op.binOp BinOp.sub 3 (Operand.tmp 130) (Operand.tmp 132) 3, type := 3, pos := "ref.go:240", after := #[{ on := 6, ground := Ground.data }, { on := 8, ground := Ground.data }], guard := none } : Oper)) (v := ?v3x9) rfl (by kernel_rfl) (by kernel_rfl) (by kernel_rfl) (fun _ _ _ h => h) (Or.inl ⟨by rfl, ?hy3x9⟩) hHeld ?_
                      case hy3x9 => ((intro w hSw); (try dsimp only at hSw); go_simp; try with_reducible rfl)
                      try simp only [Act.put, List.setIfInBounds_toArray, List.set_cons_zero, List.set_cons_succ]
                      refine wpAnyH_ready (rs := [10]) (by kernel_rfl) (by simp) ?_
                      refine AllReadyH.cons (o := ({ dst := some 134, op := Op.call { callee := Callee.value (Operand.func 40), args := #[Operand.tmp 133], argTypes := #[3] }, type := 46, pos := "ref.go:240", after := #[{ on := 9, ground := Ground.data }], guard := none } : Oper)) rfl (fun K hK => ?_) AllReadyH.nil
                      go_simp
                      go_at_call 40
                      refine (bytes_any (tk - x.pc) _).mono ?_
                      rintro e w9 ⟨rfl, rfl⟩
                      try go_wp2_with fail
                      have hM2 := heap_alloc_lt (o := (.cells #[.int .u8 ((tk - x.pc) / 256 % 256), .int .u8 ((tk - x.pc) % 256)] 5)) hHeld.1
                      have hT2 := (World.cell?_alloc_lt w8.drew (.cells #[.int .u8 ((tk - x.pc) / 256 % 256), .int .u8 ((tk - x.pc) % 256)] 5) ⟨b2, o2 + (m + 1), none⟩ hb2w).trans hHeld.2.2.2.2.1
                      have hK2 := hHeld.2.2.2.2.2.alloc hbW (.cells #[.int .u8 ((tk - x.pc) / 256 % 256), .int .u8 ((tk - x.pc) % 256)] 5)
                      refine hK.out _ _ ⟨hM2, cells_of hM2 0, cells_of hM2 3, cells_of hM2 4, hT2, hK2⟩ (fun hHeld1 => ?_)
                      clear hK K hHeld
                      try simp only [Act.put, List.setIfInBounds_toArray, List.set_cons_zero, List.set_cons_succ]
                      refine wpAnyH_ready (rs := [11]) (by kernel_rfl) (by simp) ?_
                      refine AllReadyH.cons (o := ({ dst := some 135, op := Op.call { callee := Callee.builtin Builtin.append, args := #[Operand.tmp 124, Operand.tmp 134], argTypes := #[46, 46] }, type := 46, pos := "ref.go:240", after := #[{ on := 0, ground := Ground.data }, { on := 10, ground := Ground.data }, { on := 10, ground := Ground.chain }], guard := none } : Oper)) rfl (fun K hK => ?_) AllReadyH.nil
                      refine step_append_own2 rfl (.tmp 124) (.tmp 134) 46 rfl base 5 i0 (.int .u8 0) 1 1 Tryd.underlying46 hi hz0 hz1 hz2 rfl (by decide) _ _ _ rfl (OwnB.app (OwnB.alloc (w := w8.drew) O8.out (.cells #[.int .u8 ((tk - x.pc) / 256 % 256), .int .u8 ((tk - x.pc) % 256)] 5))) ⟨_, 0, none⟩ 2 2 [.int .u8 ((tk - x.pc) / 256 % 256), .int .u8 ((tk - x.pc) % 256)] rfl rfl (new_at _ [.int .u8 ((tk - x.pc) / 256 % 256), .int .u8 ((tk - x.pc) % 256)] 5 _ (by first | rfl | (simp; done))) (int_cells .u8 [(tk - x.pc) / 256 % 256, (tk - x.pc) % 256]) hml hmb (hbA _) ?_
                      intro v9 w9 hown9 hg9 _
                      have hk9 := OwnB.grown (w := w8.drew) O8.out hbW hg9
                      have hkk := own_grown (OwnB.app (OwnB.alloc (w := w8.drew) O8.out (.cells #[.int .u8 ((tk - x.pc) / 256 % 256), .int .u8 ((tk - x.pc) % 256)] 5))) (hbA _) hg9
                      have hM3 := hkk.other _ _ _ _ (by decide) hHeld1.1
                      have hT3 := (hkk.below.cell (p := ⟨b2, o2 + (m + 1), none⟩) hb2b).trans hHeld1.2.2.2.2.1
                      have hK3 := hHeld1.2.2.2.2.2.trans hkk
                      obtain ⟨a9, c9, rfl⟩ := own_form hown9
                      refine hK.out _ _ ⟨hM3, cells_of hM3 0, cells_of hM3 3, cells_of hM3 4, hT3, hK3⟩ (fun hHeld2 => ?_)
                      clear hK K hHeld1
                      try simp only [Act.put, List.setIfInBounds_toArray, List.set_cons_zero, List.set_cons_succ]
                      refine wpAnyH_take (i := 12) (oi := ({ dst := some 9, op := Op.assign (Operand.tmp 135), type := 46, pos := "ref.go:240", after := #[{ on := 11, ground := Ground.data }, { on := 11, ground := Ground.chain }, { on := 0, ground := Ground.phase }, { on := 1, ground := Ground.phase }, { on := 2, ground := Ground.phase }, { on := 3, ground := Ground.phase }, { on := 4, ground := Ground.phase }, { on := 5, ground := Ground.phase }, { on := 6, ground := Ground.phase }, { on := 7, ground := Ground.phase }, { on := 8, ground := Ground.phase }, { on := 9, ground := Ground.phase }, { on := 10, ground := Ground.phase }, { on := 11, ground := Ground.phase }], guard := none } : Oper)) (v := ?v3x12) rfl (by kernel_rfl) (by kernel_rfl) (by kernel_rfl) (fun _ _ _ h => h) (Or.inl ⟨by rfl, ?hy3x12⟩) hHeld2 ?_
                      case hy3x12 => ((intro w hSw); (try dsimp only at hSw); go_simp; try with_reducible rfl)
                      try simp only [Act.put, List.setIfInBounds_toArray, List.set_cons_zero, List.set_cons_succ]
                      refine wpAnyH_done (by kernel_rfl) ?_ _
                      have O9 := Lib.hid (two_more hown9)
                      have K9 := Lib.hid hK3
                      have M9 := hM3
                      clear hHeld2 hM2 hT2 hK2 hM3 hT3 hK3 hown9 hk9 hkk hg9
                      have OO := Lib.hid (show OwnB w9 base _ (l3 ++ keysN x (m + 1)) by have := O9.out; have e : l8 ++ beN 2 (tk - x.pc) = l3 ++ keysN x (m + 1) := (by rw [← HL8.out, ← HLM.out, keysN_succ, ← HKN.out]; simp); rwa [e] at this)
                      clear O9 hwr hw1 hw3 hw4 hw5 t0c MB hml hmb hbA
                      obtain ⟨an, cn, hvn⟩ := OO.out.slice
                      have HMN := Lib.hid M9
                      clear M9
                      go_wp2
                      go_roundg (gk - 1)
                      case measure => exact hgg3
                      case rel => exact ⟨m + 1, by go_num, by omega, OO.out, HMN.out, K9.out⟩
                    · obtain rfl : m = x.keys.length := by omega
                      have HE := Lib.hid (show lk ++ encB x = lm by unfold encB tailB; rw [HF.out, ← HLM.out, HL3.out]; simp)
                      clear MB
                      go_wp2
                      go_roundg (g0 - 1)
                      case measure => exact hgg2
                      case rel => exact ⟨k + 1, by go_num, by omega, by rw [HN.out, HE.out]; exact OM.out, KM.out⟩
                · have hjm : x.to.length = 1 := by rw [FI.out.jm]; unfold jmpP; rw [HF.out]; rfl
                  have hu := List.getElem?_eq_getElem (show 0 < x.to.length by omega)
                  generalize x.to[0]'(by omega) = t0 at hu
                  have HU := Lib.hid hu
                  have hT1 := HTR.out.below K1.out.below hbB
                  obtain ⟨b2, o2, rfl, hb2B, t0c⟩ := hT1.at_ hu
                  simp only [Nat.add_zero] at t0c
                  have hbd := FI.out.tos t0 (List.mem_of_getElem? hu)
                  have hpd := FI.out.pc
                  have hb2b : b2 < base := by omega
                  have hb2w : b2 < w1.heap.size := by omega
                  have hto0 : (0 : Int) < (x.to.length : Int) := by omega
                  have hto0n : 0 < x.to.length := by omega
                  have KW := K1
                  have MB := HMB.out
                  have hml : l1.length + 2 ≤ maxLen := by unfold maxLen; omega
                  have hmb : (l1.length + 2) * 1 ≤ 140737488355328 := by omega
                  have hbA : ∀ o, base ≤ (w1.drew.alloc o).heap.size := fun o => by show base ≤ (w1.alloc o).heap.size; simp; omega
                  have hwr : IntKind.i64.wrap (t0 - x.pc) = t0 - x.pc := IntWalk.i64_in _ (by omega)
                  clear hu hT1
                  clear hjm
                  go_wp2
                  refine wp_region_held_drew (S := (fun w' => w'.heap[wo.heap.size]? = some (.cells #[.int .i64 x.pc, .int .i64 x.op, .int .i64 x.n, .slice Ak x.keys.length ck, .slice (some ⟨b2, o2, none⟩) x.to.length ct] 43 (0, 0)) ∧ w'.cell? ⟨wo.heap.size, 0, none⟩ = some (.int .i64 x.pc) ∧ w'.cell? ⟨wo.heap.size, 3, none⟩ = some (.slice Ak x.keys.length ck) ∧ w'.cell? ⟨wo.heap.size, 4, none⟩ = some (.slice (some ⟨b2, o2, none⟩) x.to.length ct) ∧ w'.cell? ⟨b2, o2, none⟩ = some (.int .i64 t0) ∧ Kept 5 base w6 w')) (by kernel_rfl) (⟨MB, cells_of MB 0, cells_of MB 3, cells_of MB 4, t0c, KW.out.drew⟩) (fun hHeld => ?_)
                  refine wpAnyH_take (i := 0) (oi := ({ dst := some 81, op := Op.move (Operand.tmp 9), type := 46, pos := "ref.go:234", after := #[], guard := none } : Oper)) (v := ?v1x0) rfl (by kernel_rfl) (by kernel_rfl) (by kernel_rfl) (fun _ _ _ h => h) (Or.inl ⟨by rfl, ?hy1x0⟩) hHeld ?_
                  case hy1x0 => ((intro w hSw); (try dsimp only at hSw); go_simp; try with_reducible rfl)
                  try simp only [Act.put, List.setIfInBounds_toArray, List.set_cons_zero, List.set_cons_succ]
                  refine wpAnyH_take (i := 1) (oi := ({ dst := some 82, op := Op.fieldAddr 43 (Operand.tmp 11) 4, type := 0, pos := "ref.go:234", after := #[], guard := none } : Oper)) (v := ?v1x1) rfl (by kernel_rfl) (by kernel_rfl) (by kernel_rfl) (fun _ _ _ h => h) (Or.inl ⟨by rfl, ?hy1x1⟩) hHeld ?_
                  case hy1x1 => ((intro w hSw); (try dsimp only at hSw); go_simp; try with_reducible rfl)
                  try simp only [Act.put, List.setIfInBounds_toArray, List.set_cons_zero, List.set_cons_succ]
                  refine wpAnyH_take (i := 2) (oi := ({ dst := some 83, op := Op.load 41 (Operand.tmp 82), type := 41, pos := "ref.go:234", after := #[{ on := 1, ground := Ground.data }], guard := none } : Oper)) (v := ?v1x2) rfl (by kernel_rfl) (by kernel_rfl) (by kernel_rfl) (fun _ _ _ h => h) (Or.inl ⟨by rfl, ?hy1x2⟩) hHeld ?_
                  case hy1x2 => ((intro w hSw); (try dsimp only at hSw); go_simp; try with_reducible rfl)
                  try simp only [Act.put, List.setIfInBounds_toArray, List.set_cons_zero, List.set_cons_succ]
                  refine wpAnyH_take (i := 3) (oi := ({ dst := some 84, op := Op.indexAddr 41 (Operand.tmp 83) (Operand.const (Value.int IntKind.i64 0)), type := 0, pos := "ref.go:234", after := #[{ on := 2, ground := Ground.data }], guard := none } : Oper)) (v := ?v1x3) rfl (by kernel_rfl) (by kernel_rfl) (by kernel_rfl) (fun _ _ _ h => h) (Or.inl ⟨by rfl, ?hy1x3⟩) hHeld ?_
                  case hy1x3 => ((intro w hSw); (try dsimp only at hSw); go_simp; try with_reducible rfl)
                  try simp only [Act.put, List.setIfInBounds_toArray, List.set_cons_zero, List.set_cons_succ]
                  refine wpAnyH_take (i := 4) (oi := ({ dst := some 85, op := Op.load 3 (Operand.tmp 84), type := 3, pos := "ref.go:234", after := #[{ on := 3, ground := Ground.data }], guard := none } : Oper)) (v := ?v1x4) rfl (by kernel_rfl) (by kernel_rfl) (by kernel_rfl) (fun _ _ _ h => h) (Or.inl ⟨by rfl, ?hy1x4⟩) hHeld ?_
                  case hy1x4 => ((intro w hSw); (try dsimp only at hSw); go_simp; try with_reducible rfl)
                  try simp only [Act.put, List.setIfInBounds_toArray, List.set_cons_zero, List.set_cons_succ]
                  refine wpAnyH_take (i := 5) (oi := ({ dst := some 86, op := Op.fieldAddr 43 (Operand.tmp 11) 0, type := 0, pos := "ref.go:234", after := #[], guard := none } : Oper)) (v := ?v1x5) rfl (by kernel_rfl) (by kernel_rfl) (by kernel_rfl) (fun _ _ _ h => h) (Or.inl ⟨by rfl, ?hy1x5⟩) hHeld ?_
                  case hy1x5 => ((intro w hSw); (try dsimp only at hSw); go_simp; try with_reducible rfl)
                  try simp only [Act.put, List.setIfInBounds_toArray, List.set_cons_zero, List.set_cons_succ]
                  refine wpAnyH_take (i := 6) (oi := ({ dst := some 87, op := Op.load 3 (Operand.tmp 86), type := 3, pos := "ref.go:234", after := #[{ on := 5, ground := Ground.data }], guard := none } : Oper)) (v := ?v1x6) rfl (by kernel_rfl) (by kernel_rfl) (by kernel_rfl) (fun _ _ _ h => h) (Or.inl ⟨by rfl, ?hy1x6⟩) hHeld ?_
                  case hy1x6 => ((intro w hSw); (try dsimp only at hSw); go_simp; try with_reducible rfl)
                  try simp only [Act.put, List.setIfInBounds_toArray, List.set_cons_zero, List.set_cons_succ]
                  refine wpAnyH_take (i := 7) (oi := ({ dst := some 88, op := Op.binOp BinOp.sub 3 (Operand.tmp 85) (Operand.tmp 87) 3, type := 3, pos := "ref.go:234", after := #[{ on := 4, ground := Ground.data }, { on := 6, ground := Ground.data }], guard := none } : Oper)) (v := ?v1x7) rfl (by kernel_rfl) (by kernel_rfl) (by kernel_rfl) (fun _ _ _ h => h) (Or.inl ⟨by rfl, ?hy1x7⟩) hHeld ?_
                  case hy1x7 => ((intro w hSw); (try dsimp only at hSw); go_simp; try with_reducible rfl)
                  try simp only [Act.put, List.setIfInBounds_toArray, List.set_cons_zero, List.set_cons_succ]
                  refine wpAnyH_ready (rs := [8]) (by kernel_rfl) (by simp) ?_
                  refine AllReadyH.cons (o := ({ dst := some 89, op := Op.call { callee := Callee.value (Operand.func 40), args := #[Operand.tmp 88], argTypes := #[3] }, type := 46, pos := "ref.go:234", after := #[{ on := 7, ground := Ground.data }], guard := none } : Oper)) rfl (fun K hK => ?_) AllReadyH.nil
                  go_simp
                  go_at_call 40
                  refine (bytes_any (t0 - x.pc) _).mono ?_
                  rintro e w9 ⟨rfl, rfl⟩
                  try go_wp2_with fail
                  have hM2 := heap_alloc_lt (o := (.cells #[.int .u8 ((t0 - x.pc) / 256 % 256), .int .u8 ((t0 - x.pc) % 256)] 5)) hHeld.1
                  have hT2 := (World.cell?_alloc_lt w1.drew (.cells #[.int .u8 ((t0 - x.pc) / 256 % 256), .int .u8 ((t0 - x.pc) % 256)] 5) ⟨b2, o2, none⟩ hb2w).trans hHeld.2.2.2.2.1
                  have hK2 := hHeld.2.2.2.2.2.alloc hbW (.cells #[.int .u8 ((t0 - x.pc) / 256 % 256), .int .u8 ((t0 - x.pc) % 256)] 5)
                  refine hK.out _ _ ⟨hM2, cells_of hM2 0, cells_of hM2 3, cells_of hM2 4, hT2, hK2⟩ (fun hHeld1 => ?_)
                  clear hK K hHeld
                  try simp only [Act.put, List.setIfInBounds_toArray, List.set_cons_zero, List.set_cons_succ]
                  refine wpAnyH_ready (rs := [9]) (by kernel_rfl) (by simp) ?_
                  refine AllReadyH.cons (o := ({ dst := some 90, op := Op.call { callee := Callee.builtin Builtin.append, args := #[Operand.tmp 81, Operand.tmp 89], argTypes := #[46, 46] }, type := 46, pos := "ref.go:234", after := #[{ on := 0, ground := Ground.data }, { on := 8, ground := Ground.data }, { on := 8, ground := Ground.chain }], guard := none } : Oper)) rfl (fun K hK => ?_) AllReadyH.nil
                  refine step_append_own2 rfl (.tmp 81) (.tmp 89) 46 rfl base 5 i0 (.int .u8 0) 1 1 Tryd.underlying46 hi hz0 hz1 hz2 rfl (by decide) _ _ _ rfl (OwnB.app (OwnB.alloc (w := w1.drew) O1.out (.cells #[.int .u8 ((t0 - x.pc) / 256 % 256), .int .u8 ((t0 - x.pc) % 256)] 5))) ⟨_, 0, none⟩ 2 2 [.int .u8 ((t0 - x.pc) / 256 % 256), .int .u8 ((t0 - x.pc) % 256)] rfl rfl (new_at _ [.int .u8 ((t0 - x.pc) / 256 % 256), .int .u8 ((t0 - x.pc) % 256)] 5 _ (by first | rfl | (simp; done))) (int_cells .u8 [(t0 - x.pc) / 256 % 256, (t0 - x.pc) % 256]) hml hmb (hbA _) ?_
                  intro v9 w9 hown9 hg9 _
                  have hk9 := OwnB.grown (w := w1.drew) O1.out hbW hg9
                  have hkk := own_grown (OwnB.app (OwnB.alloc (w := w1.drew) O1.out (.cells #[.int .u8 ((t0 - x.pc) / 256 % 256), .int .u8 ((t0 - x.pc) % 256)] 5))) (hbA _) hg9
                  have hM3 := hkk.other _ _ _ _ (by decide) hHeld1.1
                  have hT3 := (hkk.below.cell (p := ⟨b2, o2, none⟩) hb2b).trans hHeld1.2.2.2.2.1
                  have hK3 := hHeld1.2.2.2.2.2.trans hkk
                  obtain ⟨a9, c9, rfl⟩ := own_form hown9
                  refine hK.out _ _ ⟨hM3, cells_of hM3 0, cells_of hM3 3, cells_of hM3 4, hT3, hK3⟩ (fun hHeld2 => ?_)
                  clear hK K hHeld1
                  try simp only [Act.put, List.setIfInBounds_toArray, List.set_cons_zero, List.set_cons_succ]
                  refine wpAnyH_take (i := 10) (oi := ({ dst := some 9, op := Op.assign (Operand.tmp 90), type := 46, pos := "ref.go:234", after := #[{ on := 9, ground := Ground.data }, { on := 9, ground := Ground.chain }, { on := 0, ground := Ground.phase }, { on := 1, ground := Ground.phase }, { on := 2, ground := Ground.phase }, { on := 3, ground := Ground.phase }, { on := 4, ground := Ground.phase }, { on := 5, ground := Ground.phase }, { on := 6, ground := Ground.phase }, { on := 7, ground := Ground.phase }, { on := 8, ground := Ground.phase }, { on := 9, ground := Ground.phase }], guard := none } : Oper)) (v := ?v1x10) rfl (by kernel_rfl) (by kernel_rfl) (by kernel_rfl) (fun _ _ _ h => h) (Or.inl ⟨by rfl, ?hy1x10⟩) hHeld2 ?_
                  case hy1x10 => ((intro w hSw); (try dsimp only at hSw); go_simp; try with_reducible rfl)
                  try simp only [Act.put, List.setIfInBounds_toArray, List.set_cons_zero, List.set_cons_succ]
                  refine wpAnyH_done (by kernel_rfl) ?_ _
                  have O9 := Lib.hid (two_more hown9)
                  have K9 := Lib.hid hK3
                  have M9 := hM3
                  clear hHeld2 hM2 hT2 hK2 hM3 hT3 hK3 hown9 hk9 hkk hg9
                  have HE := Lib.hid (show lk ++ encB x = l1 ++ beN 2 (t0 - x.pc) by unfold encB tailB; rw [HF.out, ← HL1.out]; simp [List.getD, HU.out])
                  clear MB t0c hml hmb hbA hwr
                  go_wp2
                  go_roundg (g0 - 1)
                  case measure => exact hgg2
                  case rel => exact ⟨k + 1, by go_num, by omega, by rw [HN.out, HE.out]; exact O9.out, K9.out⟩
                · have HE := Lib.hid (show lk ++ encB x = l1 ++ beN 1 x.n by unfold encB tailB; rw [HF.out, ← HL1.out]; simp)
                  go_wp2_with (at_builtin; refine wpList_append_own _ rfl (.tmp 66) (.tmp 70) 46 rfl base 5 i0 (.int .u8 0) 1 1 Tryd.underlying46 hi hz0 hz1 hz2 rfl (by decide) _ _ _ rfl (OwnB.app (O1.out.alloc _)) ⟨_, 0, none⟩ 1 1 [.int .u8 ((x.n) % 256)] rfl rfl ?ak3 ?bk3 ?ck3 ?dk3 ?ek3 ?_)
                  case ak3 => exact new_at _ [.int .u8 ((x.n) % 256)] 5 _ (by first | rfl | (simp; done))
                  case bk3 => exact int_cells .u8 [(x.n) % 256]
                  case ck3 => unfold maxLen; omega
                  case dk3 => omega
                  case ek3 => simp; omega
                  intro v9 w9 hown9 hg9 _
                  have hkk := own_grown (OwnB.app (O1.out.alloc (.cells #[.int .u8 (x.n % 256)] 5))) (by simp; omega) hg9
                  have O9 := Lib.hid (one_more hown9)
                  have K9 := Lib.hid ((K1.out.alloc hbW (.cells #[.int .u8 (x.n % 256)] 5)).trans hkk)
                  obtain ⟨a9, c9, rfl⟩ := own_form hown9
                  clear hown9 hg9 hkk
                  go_wp2
                  go_roundg (g0 - 1)
                  case measure => exact hgg2
                  case rel => exact ⟨k + 1, by go_num, by omega, by rw [HN.out, HE.out]; exact O9.out, K9.out⟩
                · have HE := Lib.hid (show lk ++ encB x = l1 ++ beN 2 x.n by unfold encB tailB; rw [HF.out, ← HL1.out]; simp)
                  go_wp2_with fail
                  refine (bytes_any x.n _).mono ?_
                  rintro e w8 ⟨rfl, rfl⟩
                  go_wp2_with (at_builtin; refine wpList_append_own _ rfl (.tmp 74) (.tmp 77) 46 rfl base 5 i0 (.int .u8 0) 1 1 Tryd.underlying46 hi hz0 hz1 hz2 rfl (by decide) _ _ _ rfl (OwnB.app (O1.out.alloc _)) ⟨_, 0, none⟩ 2 2 [.int .u8 ((x.n) / 256 % 256), .int .u8 ((x.n) % 256)] rfl rfl ?ak4 ?bk4 ?ck4 ?dk4 ?ek4 ?_)
                  case ak4 => exact new_at _ [.int .u8 ((x.n) / 256 % 256), .int .u8 ((x.n) % 256)] 5 _ (by first | rfl | (simp; done))
                  case bk4 => exact int_cells .u8 [(x.n) / 256 % 256, (x.n) % 256]
                  case ck4 => unfold maxLen; omega
                  case dk4 => omega
                  case ek4 => simp; omega
                  intro v9 w9 hown9 hg9 _
                  have hkk := own_grown (OwnB.app (O1.out.alloc (.cells #[.int .u8 ((x.n) / 256 % 256), .int .u8 ((x.n) % 256)] 5))) (by simp; omega) hg9
                  have O9 := Lib.hid (two_more hown9)
                  have K9 := Lib.hid ((K1.out.alloc hbW (.cells #[.int .u8 ((x.n) / 256 % 256), .int .u8 ((x.n) % 256)] 5)).trans hkk)
                  obtain ⟨a9, c9, rfl⟩ := own_form hown9
                  clear hown9 hg9 hkk
                  go_wp2
                  go_roundg (g0 - 1)
                  case measure => exact hgg2
                  case rel => exact ⟨k + 1, by go_num, by omega, by rw [HN.out, HE.out]; exact O9.out, K9.out⟩
                · have HE := Lib.hid (show lk ++ encB x = l1 by unfold encB tailB; rw [HF.out, ← HL1.out]; simp)
                  go_wp2
                  go_roundg (g0 - 1)
                  case measure => exact hgg2
                  case rel => exact ⟨k + 1, by go_num, by omega, by rw [HN.out, HE.out]; exact O1.out, K1.out⟩
              · obtain rfl : k = l.length := by omega
                have hcv := string_owned OR.out
                have HFIN := Lib.hid (show EncE w l (.returned (.tuple #[.string ⟨lk.toArray⟩, .int .i64 0])) wo by
                  unfold EncE
                  rw [HES.out, HEE.out, ← HLK.out, List.take_length]
                  exact ⟨rfl, B6.out.trans (KW.out.below.mono hz6)⟩)
                go_wp2
                go_ret2
                exact HFIN.out
          · have HNE := Lib.hid hf0
            have e3 : (f == 0) = false := by simpa using hf0
            clear hf0
            go_wp2_with fail
            refine HFL.out.mono ?_
            rintro e w6 ⟨rfl, hb6⟩
            have B6 := Lib.hid (BE.out.trans (hb6.mono hsz))
            clear hb6
            go_wp2
            go_ret2
            exact BAD.out f _ HEE.out HNE.out B6.out
        · have hlp2 : lenP pc = 2 := by unfold lenP; rw [if_neg (by omega), if_pos (by omega)]
          have HEE := Lib.hid (show encE l = 2 by unfold encE; rw [HRL.out]; simp [hlp2])
          have hp5 : 4096 < pc := by omega
          clear hlp2 hp4 hne hpl
          go_wp2
          go_ret2
          exact BAD.out 2 _ HEE.out (by decide) BE.out
end Go.Proofs.YtjdaaecbnhcoaaaDoor
