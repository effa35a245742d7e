/-
  WALK: instructions as bytes, as the program writes them.
-/
import Derived.Test.YtjdaaecbnhcoaaaDoorK18
import Derived.Test.YtjdaaecbnhcoaaaDoorK15
set_option linter.unusedVariables false
set_option linter.unusedSimpArgs false
namespace Go.Proofs.YtjdaaecbnhcoaaaDoor
open Go.RowKit

/-- The first error of instructions that stand at a place; where they end. -/
def runE : Nat → List In → Int × Nat
  | pc, [] => (0, pc)
  | pc, x :: l => if errP x pc = 0 then runE (pc + widP x) l else (errP x pc, 0)
def encE (l : List In) : Int := if (runE 0 l).1 ≠ 0 then (runE 0 l).1 else if lenP (runE 0 l).2 ≠ 0 then lenP (runE 0 l).2 else flowP l
def encS (l : List In) : ByteArray := if encE l = 0 then ⟨(l.flatMap encB).toArray⟩ else ⟨#[]⟩
theorem errP_ok {x : In} {pc : Int} (h : errP x pc = 0) : goodB x pc = true ∧ formP x.op ≠ 0 := by
  unfold errP at h
  split at h
  · cases h
  rename_i h0
  split at h
  · rename_i hg; exact ⟨hg, h0⟩
  · cases h
theorem good_parts {x : In} {pc : Int} (h : goodB x pc = true) : x.pc = pc ∧ x.to.length = jmpP x ∧ x.keys.length ≤ 1022 := by
  unfold goodB at h
  simp only [Bool.and_eq_true, decide_eq_true_eq] at h
  obtain ⟨⟨⟨⟨h1, h2⟩, h3⟩, h4⟩, h5⟩ := h
  refine ⟨h3, h4, ?_⟩
  unfold keyB at h5
  split at h5
  · simp only [Bool.and_eq_true, decide_eq_true_eq] at h5; exact h5.1
  · simp only [decide_eq_true_eq] at h5; omega
theorem wid_bd {x : In} (h : x.keys.length ≤ 1022) : 0 < widP x ∧ widP x ≤ 4093 := by
  unfold widP
  repeat' split
  all_goals omega
theorem runE_ok : ∀ (l : List In) (pc n : Nat), runE pc l = (0, n) → pc + l.length ≤ n ∧ ∀ x ∈ l, x.to.length = jmpP x ∧ x.keys.length ≤ 1022 ∧ (pc : Int) ≤ x.pc ∧ x.pc < n
  | [], pc, n, h => by
    simp only [runE, Prod.mk.injEq, true_and] at h
    subst h
    exact ⟨by simp, fun x hx => by simp at hx⟩
  | y :: l, pc, n, h => by
    unfold runE at h
    split at h
    · rename_i he
      obtain ⟨g1, _⟩ := errP_ok he
      obtain ⟨g2, g3, g4⟩ := good_parts g1
      have gw := wid_bd g4
      obtain ⟨h1, h2⟩ := runE_ok l _ n h
      refine ⟨by simp only [List.length_cons]; omega, fun x hx => ?_⟩
      rcases List.mem_cons.1 hx with rfl | hx
      · exact ⟨g3, g4, by omega, by omega⟩
      · obtain ⟨a, b, c, d⟩ := h2 x hx
        exact ⟨a, b, by omega, d⟩
    · rename_i he
      simp only [Prod.mk.injEq] at h
      exact absurd h.1 he
theorem fine_all {l : List In} {n : Nat} (h : runE 0 l = (0, n)) (hn : n ≤ 4096) (hf : flowP l = 0) : ∀ x ∈ l, Fine x := by
  obtain ⟨_, h2⟩ := runE_ok l 0 n h
  obtain ⟨j1, _⟩ := flow_ok hf
  rw [jumps_mem] at j1
  intro x hx
  obtain ⟨a, b, c, d⟩ := h2 x hx
  refine ⟨a, b, ⟨by omega, by omega⟩, fun t ht => ?_⟩
  obtain ⟨y, hy, e⟩ := j1 x hx t ht
  have := h2 y hy
  omega
theorem encB_le {x : In} (h : x.keys.length ≤ 1022) : (encB x).length ≤ 5000 := by
  unfold encB tailB
  rw [List.length_append, beN_length]
  repeat' split
  all_goals simp only [List.length_append, beN_length, keysN_length, List.length_nil]
  all_goals omega
theorem enc_le : ∀ (l : List In), (∀ x ∈ l, Fine x) → (l.flatMap encB).length ≤ 5000 * l.length
  | [], _ => by simp
  | x :: l, h => by
    have h1 := encB_le (h x (by simp)).key
    have h2 := enc_le l fun y hy => h y (by simp [hy])
    simp only [List.flatMap_cons, List.length_append, List.length_cons]
    omega
theorem string_owned {w : World} {base : Nat} {v : Value} {l : List UInt8} (h : OwnB w base v l) : (convert 46 9 v).run Tryd.prog w = .ok (.string ⟨l.toArray⟩) w := by
  rcases h.2 with ⟨rfl, hn⟩ | ⟨g, cap, cur, rfl, hb, hgg, rest⟩
  · have : l = [] := List.eq_nil_of_length_eq_zero hn
    subst this
    rw [run_convert_bytes_string w 46 9 5 none 0 0 Tryd.underlying46 Tryd.underlying5 Tryd.underlying9]
    rfl
  · refine run_convert_bytes_back w 46 9 5 ⟨g, 0, none⟩ cap l Tryd.underlying46 Tryd.underlying5 Tryd.underlying9 ?_
    intro j hj
    exact World.ownsRow.cells h (g := g) rfl j _ (by simp [bcells, hj])
theorem runE_next {l : List In} {k pc : Nat} {x : In} (hx : l[k]? = some x) (h : runE 0 l = runE pc (l.drop k)) : runE 0 l = if errP x pc = 0 then runE (pc + widP x) (l.drop (k + 1)) else (errP x pc, 0) := by
  obtain ⟨hk, rfl⟩ := List.getElem?_eq_some_iff.1 hx
  rw [h, List.drop_eq_getElem_cons hk]
  rfl
/-- What is answered. -/
def EncE (w : World) (l : List In) (e : Ending) (w' : World) : Prop := e = .returned (.tuple #[.string (encS l), .int .i64 (encE l)]) ∧ Below w.heap.size w w'
set_option maxRecDepth 1000000 in
set_option maxHeartbeats 12800000 in
theorem Encode_any (B : Nat) (l : List In) (v : Value) (w : World) (hr : NRow B w v l) (hB : B ≤ w.heap.size) (hlen : l.length ≤ 1000000000000000) (hks : ∀ x ∈ l, x.keys.length ≤ 1000000000000000) :
    Calls Tryd.prog 25 #[v] w (EncE w l) := by
  obtain ⟨A, cap, rfl, hc, hm⟩ := hr.form
  unfold maxLen at hm
  have HR := Lib.hid hr
  have HKS := Lib.hid hks
  have BAD := Lib.hid (show ∀ (e : Int) (w' : World), encE l = e → e ≠ 0 → Below w.heap.size w w' → EncE w l (.returned (.tuple #[.string ⟨#[]⟩, .int .i64 e])) w' from fun e w' h1 h2 h3 => by
    unfold EncE encS
    rw [h1, if_neg h2]
    exact ⟨rfl, h3⟩)
  clear hr hks
  go_enter Tryd.func25, Tryd.ntmps25
  go_wp2
  go_loopg [4, 15] l.length (fun g u4 u15 wx => ∃ (k pc : Nat), u15 = .int .i64 k ∧ u4 = .int .i64 pc ∧ k + g = l.length ∧ runE 0 l = runE pc (l.drop k) ∧ pc ≤ 4093 * k ∧ Below w.heap.size w wx)
  case atStart => exact ⟨0, 0, rfl, rfl, by omega, rfl, by omega, Below.refl _ _⟩
  case round =>
    obtain ⟨k, pc, rfl, rfl, hkg, hrun, hpc, hb⟩ := hrel
    have HRUN := Lib.hid hrun
    have BE := Lib.hid hb
    have hsz := hb.size
    clear hrun hb
    by_cases hlt : k < l.length
    · have hgg : gk - 1 < gk := by omega
      have hx := List.getElem?_eq_getElem hlt
      generalize l[k] = x at hx
      have HX := Lib.hid hx
      have hrow := (HR.out.below BE.out hB).at_ hx
      obtain ⟨b, o, Ak, ck, At, ct, rfl, hbB, hki, hti, c0, c1, c2, c3, c4⟩ := hrow
      have hkl := HKS.out x (List.mem_of_getElem? hx)
      have hbw : b < wr.heap.size := by omega
      have HKI := Lib.hid hki
      have hBA : B ≤ (wr.alloc (.cells #[.int .i64 x.pc, .int .i64 x.op, .int .i64 x.n, .slice Ak x.keys.length ck, .slice At x.to.length ct] 43)).heap.size := by simp; omega
      have HIE := fun (W : World) (h : Below (wr.alloc (.cells #[.int .i64 x.pc, .int .i64 x.op, .int .i64 x.n, .slice Ak x.keys.length ck, .slice At x.to.length ct] 43)).heap.size (wr.alloc (.cells #[.int .i64 x.pc, .int .i64 x.op, .int .i64 x.n, .slice Ak x.keys.length ck, .slice At x.to.length ct] 43)) W) => Lib.hid (instrError_any B x Ak At ck ct pc W hkl ((IRow.alloc (w := wr) HKI.out (by omega) (.cells #[.int .i64 x.pc, .int .i64 x.op, .int .i64 x.n, .slice Ak x.keys.length ck, .slice At x.to.length ct] 43)).below h hBA) (Nat.le_trans hBA h.size))
      have M := heap_new wr (.cells #[.int .i64 x.pc, .int .i64 x.op, .int .i64 x.n, .slice Ak x.keys.length ck, .slice At x.to.length ct] 43)
      have HM := Lib.hid M
      have BA := Lib.hid (BE.out.alloc hsz (.cells #[.int .i64 x.pc, .int .i64 x.op, .int .i64 x.n, .slice Ak x.keys.length ck, .slice At x.to.length ct] 43))
      have hmw : wr.heap.size < (wr.alloc (.cells #[.int .i64 x.pc, .int .i64 x.op, .int .i64 x.n, .slice Ak x.keys.length ck, .slice At x.to.length ct] 43)).heap.size := by simp
      by_cases he : errP x pc = 0
      · have hrn := runE_next HX.out HRUN.out
        rw [if_pos he] at hrn
        have HRN := Lib.hid hrn
        obtain ⟨e1, e2, e3⟩ := good_parts (errP_ok he).1
        have hwd := wid_bd e3
        have HSZ := fun W => Lib.hid (sizeOf_any x Ak At ck ct W hkl)
        rw [he] at HIE
        obtain ⟨wd, hwdd⟩ : ∃ n, widP x = n := ⟨_, rfl⟩
        rw [hwdd] at HSZ hwd HRN
        clear hrn he hx hki hti e1 e2 e3 hwdd M
        go_wp2_with fail
        refine (HIE _ (Below.refl _ _)).out.mono ?_
        rintro e w1 ⟨rfl, hb1⟩
        have M1 := (hb1.block _ hmw).trans HM.out
        have d0 := cells_of M1 0
        have d1 := cells_of M1 1
        have d2 := cells_of M1 2
        have d3 := cells_of M1 3
        have d4 := cells_of M1 4
        simp at d0 d1 d2 d3 d4
        have hm1 := lt_of_block M1
        have B1 := Lib.hid (BA.out.trans (hb1.mono (by simp; omega)))
        clear M1 hb1 c0 c1 c2 c3 c4
        go_wp2_with fail
        refine (HSZ _).out.mono ?_
        rintro e w2 ⟨rfl, hb2⟩
        have B2 := Lib.hid (B1.out.trans (hb2.mono B1.out.size))
        clear hb2 d0 d1 d2 d3 d4
        go_wp2
        go_roundg (gk - 1)
        case measure => exact hgg
        case rel => exact ⟨k + 1, pc + wd, by go_num, by go_num, by omega, HRN.out, by omega, B2.out⟩
      · have hrn := runE_next HX.out HRUN.out
        rw [if_neg he] at hrn
        have HEE := Lib.hid (show encE l = errP x pc by unfold encE; rw [hrn, if_pos he])
        obtain ⟨f, hf⟩ : ∃ f, errP x pc = f := ⟨_, rfl⟩
        rw [hf] at HIE HEE he
        have HNE := Lib.hid he
        have e3 : (f == 0) = false := by simpa using he
        clear hrn he hx hki hti M hf
        go_wp2_with fail
        refine (HIE _ (Below.refl _ _)).out.mono ?_
        rintro e w1 ⟨rfl, hb1⟩
        have B1 := Lib.hid (BA.out.trans (hb1.mono (by simp; omega)))
        clear hb1 c0 c1 c2 c3 c4
        go_wp2
        go_ret2
        exact BAD.out f _ HEE.out HNE.out B1.out
    · obtain rfl : k = l.length := by omega
      have hrl : runE 0 l = (0, pc) := by rw [HRUN.out, List.drop_length]; rfl
      have HRL := Lib.hid hrl
      have HLE := fun W => Lib.hid (lenErr_all pc W)
      obtain ⟨le, hle⟩ : ∃ e, lenP pc = e := ⟨_, rfl⟩
      rw [hle] at HLE
      have HLP := Lib.hid hle
      clear hrl hle
      by_cases h0 : le = 0
      · subst h0
        have hpc4 : 1 ≤ pc ∧ pc ≤ 4096 := by
          have := HLP.out
          unfold lenP at this
          split at this
          · cases this
          · split at this
            · cases this
            · omega
        obtain ⟨hlp, hpl⟩ := runE_ok l 0 pc HRL.out
        have hne : l ≠ [] := by
          rintro rfl
          have := HRL.out
          simp [runE] at this
          omega
        have hpcs : Pcs l := fun x hx => by have := hpl x hx; omega
        have HFL := Lib.hid (flow_any B l _ wr (HR.out.below BE.out hB) (by omega) hne hpcs)
        obtain ⟨f, hf⟩ : ∃ f, flowP l = f := ⟨_, rfl⟩
        rw [hf] at HFL
        have HEE := Lib.hid (show encE l = f by unfold encE; rw [HRL.out]; simp [HLP.out, hf])
        have HFF := Lib.hid hf
        clear hpl hpcs hf
        by_cases hf0 : f = 0
        · subst hf0
          have HFI := Lib.hid (fine_all HRL.out hpc4.2 HFF.out)
          have HES := Lib.hid (show encS l = ⟨(l.flatMap encB).toArray⟩ by unfold encS; rw [HEE.out, if_pos rfl])
          have HNE := Lib.hid hne
          have hl4 : l.length ≤ 4096 := by omega
          clear hne
          go_wp2_with fail
          refine (HLE _).out.mono ?_
          rintro e w3 ⟨rfl, rfl⟩
          go_wp2_with fail
          refine HFL.out.mono ?_
          rintro e w6 ⟨rfl, hb6⟩
          have B6 := Lib.hid (BE.out.trans (hb6.mono hsz))
          have hz6 : w.heap.size ≤ w6.heap.size := B6.out.size
          obtain ⟨i0, hi, hz0, hz1, hz2⟩ := info5
          obtain ⟨w7, hmk, hown7, hg7⟩ := run_make_own (P := Tryd.prog) w6 w6.heap.size 46 5 i0 (.int .u8 0) 1 Tryd.underlying46 hi hz0 hz1 .i64 .i64 pc (by rw [hz2]; omega) (by unfold maxLen; omega) (Nat.le_refl _)
          have O7 := Lib.hid (show OwnB w7 w6.heap.size (.slice (some ⟨w6.heap.size, 0, none⟩) 0 pc) [] from hown7)
          have K7 := Lib.hid (show Kept 5 w6.heap.size w6 w7 from ⟨(Below.refl _ _).grown hg7 (Nat.le_refl _) (fun k hk => by cases hk), fun k cs t m _ e => (hg7.block k (lt_of_block e) (by simp)).trans e⟩)
          obtain ⟨base, hbase⟩ : ∃ b, b = w6.heap.size := ⟨_, rfl⟩
          rw [← hbase] at O7 K7 hz6
          have hbB : B ≤ base := by omega
          have HBA := Lib.hid hbase
          have R6 := Lib.hid (HR.out.below B6.out hB)
          clear hi hz0 hz1 hz2 hown7 hg7 hb6 hbase
          go_wp2
          clear hmk
          go_loopg [10, 44] l.length (fun g u10 u44 wx => ∃ k : Nat, u44 = .int .i64 k ∧ k + g = l.length ∧ OwnB wx base u10 ((l.take k).flatMap encB) ∧ Kept 5 base w6 wx)
          case atStart => exact ⟨0, rfl, by omega, by have := O7.out; rw [HBA.out] at this ⊢; exact this, K7.out⟩
          case round =>
            obtain ⟨k, rfl, hkg2, hown, hkw⟩ := hrel
            obtain ⟨lk, hlk⟩ : ∃ m, (l.take k).flatMap encB = m := ⟨_, rfl⟩
            have hlkl : ((l.take k).flatMap encB).length ≤ 5000 * (l.take k).length := enc_le _ fun x hx => HFI.out x (List.mem_of_mem_take hx)
            rw [List.length_take] at hlkl
            rw [hlk] at hown hlkl
            have HLK := Lib.hid hlk
            have OR := Lib.hid hown
            have KW := Lib.hid hkw
            have hbW : base ≤ wr.heap.size := by have := hkw.size; have := HBA.out; omega
            obtain ⟨ab, cb, rfl⟩ := hown.slice
            clear hown hkw hlk
            by_cases hlt2 : k < l.length
            · have hgg2 : gk - 1 < gk := by omega
              have hx := List.getElem?_eq_getElem hlt2
              generalize l[k] = x at hx
              have hrow := (R6.out.below KW.out.below hbB).at_ hx
              obtain ⟨b, o, Ak, ck, At, ct, rfl, hbB2, hki, hti, c0, c1, c2, c3, c4⟩ := hrow
              have hbw : b < wr.heap.size := by omega
              have HAI := Lib.hid (appendInstr_any B x (HFI.out x (List.mem_of_getElem? hx)) Ak At ck ct _ lk base (wr.alloc (.cells #[.int .i64 x.pc, .int .i64 x.op, .int .i64 x.n, .slice Ak x.keys.length ck, .slice At x.to.length ct] 43)) (hki.alloc (by omega) _) (hti.alloc (by omega) _) hbB (OR.out.alloc _) (by omega) (by simp; omega))
              have HN := Lib.hid (show (l.take (k + 1)).flatMap encB = lk ++ encB x by
                obtain ⟨hk', rfl⟩ := List.getElem?_eq_some_iff.1 hx
                rw [List.take_succ_eq_append_getElem hk', List.flatMap_append, HLK.out]
                simp)
              have KA := Lib.hid (KW.out.alloc hbW (.cells #[.int .i64 x.pc, .int .i64 x.op, .int .i64 x.n, .slice Ak x.keys.length ck, .slice At x.to.length ct] 43))
              clear hx hki hti
              go_wp2_with fail
              refine HAI.out.mono ?_
              rintro e w9 ⟨v9, rfl, hown9, hk9⟩
              have O9 := Lib.hid (show OwnB w9 base v9 ((l.take (k + 1)).flatMap encB) by rw [HN.out]; exact hown9)
              have K9 := Lib.hid (KA.out.trans hk9)
              obtain ⟨a9, c9, rfl⟩ := hown9.slice
              clear hown9 hk9 c0 c1 c2 c3 c4
              go_wp2
              go_roundg (gk - 1)
              case measure => exact hgg2
              case rel => exact ⟨k + 1, by go_num, by omega, by simpa using O9.out, K9.out⟩
            · obtain rfl : k = l.length := by omega
              have hcv := string_owned OR.out
              have HFIN := Lib.hid (show EncE w l (.returned (.tuple #[.string ⟨lk.toArray⟩, .int .i64 0])) wr by
                unfold EncE
                rw [HES.out, HEE.out, ← HLK.out, List.take_length]
                exact ⟨rfl, B6.out.trans (KW.out.below.mono hz6)⟩)
              go_wp2
              go_ret2
              exact HFIN.out
        · have HNE := Lib.hid hf0
          have e3 : (f == 0) = false := by simpa using hf0
          clear hf0
          go_wp2_with fail
          refine (HLE _).out.mono ?_
          rintro e w3 ⟨rfl, rfl⟩
          go_wp2_with fail
          refine HFL.out.mono ?_
          rintro e w6 ⟨rfl, hb6⟩
          have B6 := Lib.hid (BE.out.trans (hb6.mono hsz))
          clear hb6
          go_wp2
          go_ret2
          exact BAD.out f _ HEE.out HNE.out B6.out
      · have HNE := Lib.hid h0
        have HEE := Lib.hid (show encE l = le by unfold encE; rw [HRL.out]; simp [HLP.out, h0])
        have e3 : (le == 0) = false := by simpa using h0
        clear h0
        go_wp2_with fail
        refine (HLE _).out.mono ?_
        rintro e w3 ⟨rfl, rfl⟩
        go_wp2
        go_ret2
        exact BAD.out le _ HEE.out HNE.out BE.out
end Go.Proofs.YtjdaaecbnhcoaaaDoor
