/-
  CUT and joined from the texts of this seat: Je Ls Jg
-/
import Derived.Test.YtmaknddlgppinaaGreatDoorY43
import Derived.Test.YtmaknddlgppinaaGreatDoorY29
import Derived.Test.YtmaknddlgppinaaGreatDoorY31
import Derived.Test.YtmaknddlgppinaaGreatDoorY27
import Derived.Test.YtmaknddlgppinaaGreatDoorY23
import Derived.Deep.QuietTactic
set_option linter.unusedVariables false
set_option linter.unusedSimpArgs false
namespace Go.Proofs.YtmaknddlgppinaaGreatDoor
open Go.RowKit
/-- The world w, some draws later. -/
def Drawn (w wr : World) : Prop := ∃ n, wr = w.drewN n
theorem Drawn.refl (w : World) : Drawn w w := ⟨0, rfl⟩
theorem Drawn.step {w wr : World} (h : Drawn w wr) (n : Nat) : Drawn w (wr.drewN n) := by
 obtain ⟨m, rfl⟩ := h
 exact ⟨m + n, by rw [World.drewN_drewN]⟩
theorem Drawn.srow {B : Nat} {w wr : World} {v : Value} {l : List (List UInt8)} (h : Drawn w wr) (hr : SRow B w v l) : SRow B wr v l := by
 obtain ⟨m, rfl⟩ := h
 exact hr.keep fun _ _ => rfl
theorem Drawn.size {w wr : World} (h : Drawn w wr) : wr.heap.size = w.heap.size := by
 obtain ⟨m, rfl⟩ := h
 rfl
theorem Drawn.below {w wr : World} (h : Drawn w wr) : Below w.heap.size w wr := by
 obtain ⟨m, rfl⟩ := h
 exact hbelow_drewN (Below.refl _ _) m
theorem take_ext {α : Type} {a b : List α} {k : Nat} {x : α} (h : a.take k = b.take k) (ha : a[k]? = some x) (hb : b[k]? = some x) : a.take (k + 1) = b.take (k + 1) := by
 rw [List.take_add_one, List.take_add_one, h, ha, hb]
set_option maxRecDepth 1000000 in
set_option maxHeartbeats 3200000 in
theorem sameTexts_any (B : Nat) (a b : List (List UInt8)) (va vb : Value) (w : World) (ha : SRow B w va a) (hb : SRow B w vb b) (hB : B ≤ w.heap.size) :
  Calls Tryz.prog 30 #[va, vb] w fun e w' => e = .returned (.bool (decide (a = b))) ∧ Drawn w w' := by
 obtain ⟨Aa, ca, rfl, hca, hma⟩ := ha.length
 obtain ⟨Ab, cb, rfl, hcb, hmb⟩ := hb.length
 unfold maxLen at hma hmb
 have HA := Lib.hid ha
 have HB := Lib.hid hb
 clear ha hb
 by_cases hl : a.length = b.length
 ·obtain ⟨n, hn⟩ : ∃ n, a.length = n := ⟨_, rfl⟩
  rw [hn] at hl hca hma HA
  rw [← hl] at hcb hmb HB ⊢
  rw [hn]
  have HLA := Lib.hid hn
  have HLB := Lib.hid hl.symm
  clear hn hl
  go_enter Tryz.func30, Tryz.ntmps30
  go_wp2
  go_loopw [5] (fun i wr => ∃ k : Nat, k ≤ n ∧ i = .int .i64 k ∧ a.take k = b.take k ∧ Drawn w wr) (fun i _ => n - (intOf i).toNat)
  case atStart => exact ⟨0, Nat.zero_le _, rfl, rfl, Drawn.refl _⟩
  case round =>
   obtain ⟨k, hk, rfl, hpre, hd⟩ := hrel
   have HD := Lib.hid hd
   have hsz := hd.below.size
   clear hd
   have HP := Lib.hid hpre
   clear hpre
   by_cases hlt : k < n
   ·have hx := List.getElem?_eq_getElem (show k < a.length by rw [HLA.out]; exact hlt)
    have hy := List.getElem?_eq_getElem (show k < b.length by rw [HLB.out]; exact hlt)
    generalize a[k]'_ = x at hx
    generalize b[k]'_ = y at hy
    obtain ⟨ba, oa, s, rfl, hba, cx, hsx, hzx⟩ := (HD.out.srow HA.out).at_ hx
    obtain ⟨bb, ob, t, rfl, hbb, cy, hsy, hzy⟩ := (HD.out.srow HB.out).at_ hy
    have HX := Lib.hid hx
    have HY := Lib.hid hy
    have hbaw : ba < wr.heap.size := by omega
    have hbbw : bb < wr.heap.size := by omega
    have hst : s.toList = t.toList ↔ x = y := by rw [← hsx, ← hsy, Lib.toList_data, Lib.toList_data]
    clear hx hy
    by_cases he : x = y
    ·have e1 : (s.toList == t.toList) = true := by simpa using hst.2 he
     have e2 : (s.toList != t.toList) = false := by simpa using hst.2 he
     have HE := Lib.hid he
     clear he hst
     go_wp2
     go_quiet (fail)
     go_wp2
     go_roundw
     case rel => exact ⟨k + 1, by omega, by go_num, take_ext HP.out HX.out (by rw [HE.out]; exact HY.out), HD.out.step _⟩
     case measure => simp [intOf]; omega
    ·have e1 : (s.toList == t.toList) = false := by simpa using fun h => he (hst.1 h)
     have e2 : (s.toList != t.toList) = true := by simpa using fun h => he (hst.1 h)
     have HE := Lib.hid he
     clear he hst
     go_wp2
     go_quiet (fail)
     go_wp2
     go_ret
     refine ⟨ret_b (decide_eq_false fun e => HE.out ?_).symm, HD.out.step _⟩
     have := HX.out
     rw [e, HY.out] at this
     cases this
     rfl
   ·have hkn : k = n := by omega
    have HKN := Lib.hid hkn
    clear hkn
    go_wp2
    go_ret
    refine ⟨ret_b (decide_eq_true ?_).symm, HD.out⟩
    have := HP.out
    rwa [HKN.out, List.take_of_length_le (by rw [HLA.out]; exact Nat.le_refl _), List.take_of_length_le (by rw [HLB.out]; exact Nat.le_refl _)] at this
 ·have hd : decide (a = b) = false := decide_eq_false fun e => hl (by rw [e])
  rw [hd]
  have e1 : ((a.length : Int) == (b.length : Int)) = false := by simp; omega
  have e2 : ((a.length : Int) != (b.length : Int)) = true := by simp; omega
  clear hl hd
  go_enter Tryz.func30, Tryz.ntmps30
  go_wp2
  go_ret
  exact ⟨rfl, Drawn.refl _⟩
end Go.Proofs.YtmaknddlgppinaaGreatDoor
namespace Go.Proofs.YtmaknddlgppinaaGreatDoor
open Classical
def own6 : List PC := [⟨[65], objB, [], false, false, 0⟩, ⟨[66], [65], [[73]], false, false, 1⟩, ⟨[73], objB, [], true, true, 2⟩]
def cs6 : List PC := builtP ++ own6
def fs6 : List FC := own6.map fun c => (0, c)
def ch6 : List (List Nat) := [[0], [1, 0], [2, 0], [3, 0], [4, 0], [5, 4, 0], [6, 4, 0], [7, 4, 0], [8, 4, 0], [9, 4, 0], [10, 4, 0], [11, 4, 0], [12, 4, 0], [13, 4, 0], [14, 0], [15, 14, 0], [16, 0]]
def rk6 : List Nat := [0, 1, 1, 1, 1, 2, 2, 2, 2, 2, 2, 2, 2, 2, 1, 2, 1]
theorem open6 : openP builtP fs6 = .inl cs6 := by
 refine openP_of (rk := rk6) (by decide) (by decide +kernel) (fun c hc => ?_) (by decide +kernel)
 rw [← kindB_eq]
 revert c
 decide +kernel
theorem good6 : Good cs6 := (openP_good good_built (by decide) open6).1
theorem chains6 : chB cs6 ch6 = true := by decide +kernel
theorem falls6 : falls cs6 rk6 = true := by decide +kernel
/-- Files that make none: two above one another; one below a sealed one; two of one name. -/
def fsR : List FC := [(0, ⟨[65], [66], [], false, false, 0⟩), (0, ⟨[66], [65], [], false, false, 1⟩)]
def fsK : List FC := [(0, ⟨[65], strB, [], false, false, 0⟩)]
def fsT : List FC := [(0, ⟨[65], objB, [], false, false, 0⟩), (0, ⟨[65], objB, [], false, false, 1⟩)]
theorem openR : openP builtP fsR = .inr (16, 0) := by
 unfold openP
 rw [if_neg (by decide), show addP builtP fsR 0 = .inl (builtP ++ fsR.map (·.2)) by decide +kernel]
 simp only
 have e : firstE (kindE (builtP ++ fsR.map (·.2))) ((builtP ++ fsR.map (·.2)).drop builtP.length) 0 = none := by
  have : kindE (builtP ++ fsR.map (·.2)) = kindB (builtP ++ fsR.map (·.2)) := by funext c; exact (kindB_eq _ c).symm
  rw [this]
  decide +kernel
 rw [e]
 simp only
 have h : Abv (builtP ++ fsR.map (·.2)) (builtP.length + 0) (builtP.length + 0) := abvB_abv (n := 3) (by decide +kernel)
 show (match firstR (builtP ++ fsR.map (·.2)) builtP.length (1 + 1) 0 with | some i => (Sum.inr (16, i) : Sum (List PC) (Nat × Nat)) | none => .inl _) = _
 unfold firstR
 rw [if_pos h]
theorem openK : openP builtP fsK = .inr (17, 0) := by
 unfold openP
 rw [if_neg (by decide), show addP builtP fsK 0 = .inl (builtP ++ fsK.map (·.2)) by decide +kernel]
 simp only
 have e : firstE (kindE (builtP ++ fsK.map (·.2))) ((builtP ++ fsK.map (·.2)).drop builtP.length) 0 = some (17, 0) := by
  have : kindE (builtP ++ fsK.map (·.2)) = kindB (builtP ++ fsK.map (·.2)) := by funext c; exact (kindB_eq _ c).symm
  rw [this]
  decide +kernel
 rw [e]
theorem openT : openP builtP fsT = .inr (15, 1) := by
 unfold openP
 rw [if_neg (by decide), show addP builtP fsT 0 = .inr (15, 1) by decide +kernel]
theorem abv6 : Abv cs6 15 14 ∧ Abv cs6 15 16 ∧ ¬ Abv cs6 14 15 := by
 refine ⟨abvB_abv (n := 3) (by decide +kernel), abvB_abv (n := 3) (by decide +kernel), fun h => ?_⟩
 have := falls_abv falls6 h
 revert this
 decide
def hasC (cs : List PC) (t : TY) : Bool := decide (0 ≤ t.1) && decide (t.1 ≤ 4) && (decide (t.2 = []) || (ix cs t.2).isSome)
theorem hasC_has {cs : List PC} {t : TY} (h : hasC cs t = true) : hasT cs t := by
 unfold hasC at h
 unfold hasT
 simpa only [Bool.and_eq_true, Bool.or_eq_true, decide_eq_true_eq, and_assoc, Option.isSome_iff_ne_none, ne_eq] using h
theorem sub6a : SubT cs6 (0, [66]) (0, [65]) := (sub_cls (i := 15) (j := 14) (by decide +kernel) (by decide +kernel)).2 (.inr abv6.1)
theorem sub6b : SubT cs6 (0, [66]) (0, [73]) := (sub_cls (i := 15) (j := 16) (by decide +kernel) (by decide +kernel)).2 (.inr abv6.2.1)
theorem sub6c : ¬ SubT cs6 (0, [65]) (0, [66]) := fun h => by
 rcases (sub_cls (i := 14) (j := 15) (by decide +kernel) (by decide +kernel)).1 h with h | h
 ·cases h
 ·exact abv6.2.2 h
theorem sub6d : SubT cs6 (1, [66]) (1, [65]) := (sub_elem good6 (hasC_has (by decide +kernel)) (hasC_has (by decide +kernel)) (by decide) (by decide)).2 sub6a
theorem sub6e : SubT cs6 (1, []) (0, objB) := sub_obj good6 (hasC_has (by decide +kernel)) (by decide)
theorem lub6a : lubT cs6 (0, [66]) (0, [65]) = (0, [65]) := by rw [lubTC_eq good6 chains6]; decide +kernel
theorem lub6b : lubT cs6 (0, [65]) (0, strB) = (0, objB) := by rw [lubTC_eq good6 chains6]; decide +kernel
theorem lub6c : lubT cs6 (1, [66]) (1, [65]) = (1, [65]) := by rw [lubTC_eq good6 chains6]; decide +kernel
theorem lub6d : lubT cs6 (1, []) (1, [65]) = (0, objB) := by rw [lubTC_eq good6 chains6]; decide +kernel
theorem chain6 : Ch cs6 15 [15, 14, 0] := by
 obtain ⟨l, h1, h2⟩ := chB_ch chains6 (i := 15) (by decide)
 rw [show ch6[15]? = some [15, 14, 0] from rfl] at h1
 cases h1
 exact h2
end Go.Proofs.YtmaknddlgppinaaGreatDoor
namespace Go.Proofs.YtmaknddlgppinaaGreatDoor
open Go.RowKit
theorem raw_own {w : World} {base : Nat} {fl : Int} {nm sp : ByteArray} {l : List ByteArray} {vp vi : Value} (h1 : w.ownsRow base 138 6 vp (4 + 2 * l.length) ((poolR nm sp l).flatMap ccells)) (h2 : w.ownsRow base 3 1 vi l.length (iccells (ifsR l.length))) :
  FileOwn w base (.agg #[vp, .int .i64 fl, .int .i64 2, .int .i64 4, vi, .slice none 0 0, .slice none 0 0]) (rawP fl nm sp l) := by
 refine ⟨vp, vi, rfl, ?_, ?_, rfl, rfl⟩
 ·show w.ownsRow base 138 6 vp (poolR nm sp l).length _
  rw [poolR_len]
  exact h1
 ·have e : (rawP fl nm sp l).ifs = ifsR l.length := rfl
  rw [e, show (ifsR l.length).length = l.length by simp [ifsR]]
  exact h2
/-- A file that a call answers stands whatever is made behind it. -/
def FileV (w : World) (x : Value) (f : Fl) : Prop := FileAt w.heap.size w x f ∧ ∃ vp vi, x = .agg #[vp, .int .i64 f.fl, .int .i64 f.this, .int .i64 f.super, vi, .slice none 0 0, .slice none 0 0]
theorem FileV.of {fl : Int} {nm sp : ByteArray} {l : List ByteArray} {w w' : World} {vp vi : Value} (h1 : w'.ownsRow w.heap.size 138 6 vp (4 + 2 * l.length) ((poolR nm sp l).flatMap ccells)) (h2 : w'.ownsRow w.heap.size 3 1 vi l.length (iccells (ifsR l.length))) :
  FileV w' (.agg #[vp, .int .i64 fl, .int .i64 2, .int .i64 4, vi, .slice none 0 0, .slice none 0 0]) (rawP fl nm sp l) :=
 ⟨(raw_own h1 h2).at_, vp, vi, rfl⟩
theorem FileV.next {w w' : World} {x : Value} {f : Fl} (h : FileV w x f) (hb : Below w.heap.size w w') : FileV w' x f :=
 ⟨(h.1.keep fun p hp => hb.cell hp).more hb.size, h.2⟩
/-- Files written out as a slice. -/
theorem lit_row {w : World} (fs : List Fl) (vs : List Value) (hl : vs.length = fs.length) (h : ∀ (i : Nat) (f : Fl) (x : Value), fs[i]? = some f → vs[i]? = some x → FileV w x f) (hm : fs.length ≤ 1000) :
  FsRow (w.alloc (.cells (vs.flatMap aggs).toArray 94)).heap.size (w.alloc (.cells (vs.flatMap aggs).toArray 94)) (.slice (some ⟨w.heap.size, 0, none⟩) fs.length fs.length) fs := by
 have hb : Below w.heap.size w (w.alloc (.cells (vs.flatMap aggs).toArray 94)) := (Below.refl _ _).alloc (Nat.le_refl _) _
 refine ⟨vs, hl, fun i f x a b => ((h i f x a b).next hb).1, ?_⟩
 have hk := kcells_of (hheap_new w (.cells (vs.flatMap aggs).toArray 94))
 have hlen : (vs.flatMap aggs).length = fs.length * 7 := by
  have : ∀ (vs : List Value) (fs : List Fl), vs.length = fs.length → (∀ (i : Nat) (f : Fl) (x : Value), fs[i]? = some f → vs[i]? = some x → FileV w x f) → (vs.flatMap aggs).length = fs.length * 7 := by
   intro vs
   induction vs with
   | nil => intro fs h1 _; cases fs with
    | nil => rfl
    | cons f r => simp at h1
   | cons x r ih => intro fs h1 h2; cases fs with
    | nil => simp at h1
    | cons f t =>
     obtain ⟨_, vp, vi, e⟩ := h2 0 f x rfl rfl
     have := ih t (by simpa using h1) (fun i g y a b => h2 (i + 1) g y (by simpa using a) (by simpa using b))
     rw [List.flatMap_cons, List.length_append, this, e]
     simp [aggs]
     omega
  exact this vs fs hl h
 refine ⟨some ⟨w.heap.size, 0, none⟩, fs.length, rfl, Nat.le_refl _, by unfold maxLen; omega, ?_⟩
 refine ⟨hlen, fun hn => ⟨w.heap.size, 0, rfl, by simp, fun j u hj => ?_⟩⟩
 rw [Nat.zero_add, hk]
 simpa using hj
def bA : ByteArray := ⟨#[65]⟩
def bB : ByteArray := ⟨#[66]⟩
def bI : ByteArray := ⟨#[73]⟩
def bObj : ByteArray := ⟨#[79, 98, 106, 101, 99, 116]⟩
def bStr : ByteArray := ⟨#[83, 116, 114, 105, 110, 103]⟩
theorem okA : OkN bA := ⟨by decide +kernel, by decide +kernel, by decide +kernel, by decide +kernel⟩
theorem okB : OkN bB := ⟨by decide +kernel, by decide +kernel, by decide +kernel, by decide +kernel⟩
theorem okI : OkN bI := ⟨by decide +kernel, by decide +kernel, by decide +kernel, by decide +kernel⟩
theorem okObj : OkN bObj := ⟨by decide +kernel, by decide +kernel, by decide +kernel, by decide +kernel⟩
theorem okStr : OkN bStr := ⟨by decide +kernel, by decide +kernel, by decide +kernel, by decide +kernel⟩
/-- The files of the examples. -/
def fl6 : List Fl := [rawP 0 bA bObj [], rawP 0 bB bA [bI], rawP 3 bI bObj []]
def flR' : List Fl := [rawP 0 bA bB [], rawP 0 bB bA []]
def flK : List Fl := [rawP 0 bA bStr []]
def flT : List Fl := [rawP 0 bA bObj [], rawP 0 bA bObj []]
theorem okNil : ∀ s ∈ ([] : List ByteArray), OkN s := fun s h => by cases h
theorem okOne : ∀ s ∈ [bI], OkN s := fun s h => by
 rw [List.mem_singleton] at h
 rw [h]
 exact okI
theorem fcs6 : fcs fl6 0 = fs6 := by
 unfold fl6
 simp only [fcs]
 rw [raw_right okA okObj okNil (by decide) (by decide), raw_right okB okA okOne (by decide) (by decide), raw_right okI okObj okNil (by decide) (by decide), raw_pc, raw_pc, raw_pc]
 rfl
theorem fcsR : fcs flR' 0 = fsR := by
 unfold flR'
 simp only [fcs]
 rw [raw_right okA okB okNil (by decide) (by decide), raw_right okB okA okNil (by decide) (by decide), raw_pc, raw_pc]
 rfl
theorem fcsK : fcs flK 0 = fsK := by
 unfold flK
 simp only [fcs]
 rw [raw_right okA okStr okNil (by decide) (by decide), raw_pc]
 rfl
theorem fcsT : fcs flT 0 = fsT := by
 unfold flT
 simp only [fcs]
 rw [raw_right okA okObj okNil (by decide) (by decide), raw_pc, raw_pc]
 rfl
theorem texts6 : ∀ f ∈ fl6, FileOk f := fun f h => by
 simp only [fl6, List.mem_cons, List.not_mem_nil, or_false] at h
 rcases h with rfl | rfl | rfl
 ·exact rawF_ok okA okObj okNil (by decide) (by decide)
 ·exact rawF_ok okB okA okOne (by decide) (by decide)
 ·exact rawF_ok okI okObj okNil (by decide) (by decide)
theorem textsR : ∀ f ∈ flR', FileOk f := fun f h => by
 simp only [flR', List.mem_cons, List.not_mem_nil, or_false] at h
 rcases h with rfl | rfl
 ·exact rawF_ok okA okB okNil (by decide) (by decide)
 ·exact rawF_ok okB okA okNil (by decide) (by decide)
theorem textsK : ∀ f ∈ flK, FileOk f := fun f h => by
 simp only [flK, List.mem_cons, List.not_mem_nil, or_false] at h
 subst h
 exact rawF_ok okA okStr okNil (by decide) (by decide)
theorem textsT : ∀ f ∈ flT, FileOk f := fun f h => by
 simp only [flT, List.mem_cons, List.not_mem_nil, or_false] at h
 rcases h with rfl | rfl
 ·exact rawF_ok okA okObj okNil (by decide) (by decide)
 ·exact rawF_ok okA okObj okNil (by decide) (by decide)
/-- New over them. -/
theorem New6 {w : World} (hN : Blt w) {Bf : Nat} (v : Value) (hf : FsRow Bf w v fl6) (hB : Bf ≤ w.heap.size) :
  Calls Tryz.prog 18 #[v] w fun e w' => (∃ nb mb A cap cl sl S, e = .returned (.tuple #[.pointer (some ⟨nb, 0, none⟩), .int .i64 0, .int .i64 0]) ∧ HT w'.heap.size nb mb A cap builtP.length cs6 cl sl S w') ∧ Below w.heap.size w w' := by
 refine (New_any hN fl6 v hf hB texts6).mono ?_
 rintro e w' ⟨ha, hb⟩
 refine ⟨?_, hb⟩
 rcases ha with ⟨x, a, h, _⟩ | ⟨ds, nb, mb, A, cap, cl, sl, S, h, he, ht⟩
 ·rw [fcs6, open6] at h
  cases h
 ·rw [fcs6, open6] at h
  injection h with h
  subst h
  exact ⟨nb, mb, A, cap, cl, sl, S, he, ht⟩
theorem New_no {w : World} (hN : Blt w) {Bf : Nat} {fs : List Fl} {l : List FC} {x a : Nat} (v : Value) (hf : FsRow Bf w v fs) (hB : Bf ≤ w.heap.size) (ht : ∀ f ∈ fs, FileOk f) (hl : fcs fs 0 = l) (ho : openP builtP l = .inr (x, a)) :
  Calls Tryz.prog 18 #[v] w fun e w' => e = .returned (.tuple #[.pointer none, .int .i64 ((x : Nat) : Int), .int .i64 ((a : Nat) : Int)]) ∧ Below w.heap.size w w' := by
 refine (New_any hN fs v hf hB ht).mono ?_
 rintro e w' ⟨ha, hb⟩
 refine ⟨?_, hb⟩
 rcases ha with ⟨x', a', h, he⟩ | ⟨ds, nb, mb, A, cap, cl, sl, S, h, he, ht⟩
 ·rw [hl, ho] at h
  injection h with h
  injection h with h1 h2
  subst h1
  subst h2
  exact he
 ·rw [hl, ho] at h
  cases h
end Go.Proofs.YtmaknddlgppinaaGreatDoor
