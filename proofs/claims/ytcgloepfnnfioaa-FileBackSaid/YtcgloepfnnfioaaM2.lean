/-
  WALKS: is a file of a size that the laws go through; a method's place.
  WALK of the search for a method.
-/
import Derived.Test.YtcgloepfnnfioaaE11
import Derived.Deep.QuietTactic
import Derived.BigQuiet
set_option linter.unusedVariables false
set_option linter.unusedSimpArgs false
namespace Go.Proofs.Ytcgloepfnnfioaa
open Go.RowKit

theorem below_drewN {B : Nat} {a w : World} (h : Below B a w) (n : Nat) : Below B a (w.drewN n) := ⟨h.os, h.tape, h.output, h.size, h.block⟩
def sumT (cs : List Cn) : Nat := (cs.map fun c => c.text.size).sum
def sumM (ms : List Mb) : Nat := (ms.map fun m => m.code.size + 8 * m.hs.length).sum
def smallB (f : Fl) : Bool := decide (f.pool.length ≤ 3000) && decide (f.ifs.length ≤ 100) && decide (f.fds.length ≤ 300) && decide (f.mts.length ≤ 300) && decide (sumT f.pool + sumM f.mts + sumM f.fds < 100000)
theorem sum_next {α : Type} {g : α → Nat} {l : List α} {k : Nat} {x : α} (hx : l[k]? = some x) : ((l.take (k + 1)).map g).sum = ((l.take k).map g).sum + g x := by
  obtain ⟨hk, rfl⟩ := List.getElem?_eq_some_iff.1 hx
  rw [List.take_succ_eq_append_getElem hk, List.map_append, List.sum_append]
  simp
theorem sum_le {α : Type} {g : α → Nat} {C N : Nat} : ∀ (l : List α), (∀ x ∈ l, g x ≤ C) → l.length ≤ N → (l.map g).sum ≤ C * N := by
  intro l h hN
  refine Nat.le_trans ?_ (Nat.mul_le_mul_left C hN)
  clear hN
  induction l with
  | nil => simp
  | cons x r ih =>
    rw [List.map_cons, List.sum_cons, List.length_cons, Nat.mul_add]
    have h1 := h x (by simp)
    have h2 := ih (fun y hy => h y (by simp [hy]))
    omega
/-- What is known of the sizes in a file that came in. -/
structure FitsF (f : Fl) : Prop where
  pool : Texts f.pool
  fds : ∀ m ∈ f.fds, m.code.size ≤ 1000000000000000 ∧ m.hs.length ≤ 1000000000000000
  mts : ∀ m ∈ f.mts, m.code.size ≤ 1000000000000000 ∧ m.hs.length ≤ 1000000000000000
set_option maxRecDepth 1000000 in
set_option maxHeartbeats 6400000 in
theorem Small_any {B : Nat} (f : Fl) (v : Value) (w : World) (hf : FileAt B w v f) (hB : B ≤ w.heap.size) (hs : FitsF f) :
    Calls Try.prog 11 #[v] w fun e w' => e = .returned (.bool (smallB f)) ∧ Below w.heap.size w w' := by
  obtain ⟨hm1, hm2, hm3, hm4⟩ := hf.max
  have HE := Lib.hid (show smallB f = (decide (f.pool.length ≤ 3000) && decide (f.ifs.length ≤ 100) && decide (f.fds.length ≤ 300) && decide (f.mts.length ≤ 300) && decide (sumT f.pool + sumM f.mts + sumM f.fds < 100000)) from rfl)
  generalize smallB f = R at *
  obtain ⟨Ap, cp, Ai, ci, Af, cf, Am, cm, rfl, hi⟩ := id hf
  have HI := Lib.hid hi
  have BE0 := Lib.hid ((Below.refl w.heap.size w).alloc (Nat.le_refl _) (.cells #[.slice Ap f.pool.length cp, .int .i64 f.fl, .int .i64 f.this, .int .i64 f.super, .slice Ai f.ifs.length ci, .slice Af f.fds.length cf, .slice Am f.mts.length cm] 26))
  have BF0 := Lib.hid (FBox.new Ap cp Ai ci Af cf Am cm f w)
  clear hi hf
  by_cases p1 : 3000 < f.pool.length
  · have HR := Lib.hid (show R = false by rw [HE.out, decide_eq_false (by omega)]; rfl)
    have p1' : (3000 : Int) < f.pool.length := by omega
    clear HE p1
    go_enter Try.func11, Try.ntmps11
    go_wp2
    go_ret
    exact ⟨ret_b HR.out.symm, BE0.out⟩
  have q1 : (f.pool.length : Int) ≤ 3000 := by omega
  by_cases p2 : 100 < f.ifs.length
  · have HR := Lib.hid (show R = false by rw [HE.out, decide_eq_false (show ¬ f.ifs.length ≤ 100 by omega)]; simp)
    have p2' : (100 : Int) < f.ifs.length := by omega
    clear HE p1 p2
    go_enter Try.func11, Try.ntmps11
    go_wp2
    go_ret
    exact ⟨ret_b HR.out.symm, BE0.out⟩
  have q2 : (f.ifs.length : Int) ≤ 100 := by omega
  by_cases p3 : 300 < f.fds.length
  · have HR := Lib.hid (show R = false by rw [HE.out, decide_eq_false (show ¬ f.fds.length ≤ 300 by omega)]; simp)
    have p3' : (300 : Int) < f.fds.length := by omega
    clear HE p1 p2 p3
    go_enter Try.func11, Try.ntmps11
    go_wp2
    go_ret
    exact ⟨ret_b HR.out.symm, BE0.out⟩
  have q3 : (f.fds.length : Int) ≤ 300 := by omega
  by_cases p4 : 300 < f.mts.length
  · have HR := Lib.hid (show R = false by rw [HE.out, decide_eq_false (show ¬ f.mts.length ≤ 300 by omega)]; simp)
    have p4' : (300 : Int) < f.mts.length := by omega
    clear HE p1 p2 p3 p4
    go_enter Try.func11, Try.ntmps11
    go_wp2
    go_ret
    exact ⟨ret_b HR.out.symm, BE0.out⟩
  have q4 : (f.mts.length : Int) ≤ 300 := by omega
  have HR := Lib.hid (show R = decide (sumT f.pool + sumM f.mts + sumM f.fds < 100000) by rw [HE.out, decide_eq_true (show f.pool.length ≤ 3000 by omega), decide_eq_true (show f.ifs.length ≤ 100 by omega), decide_eq_true (show f.fds.length ≤ 300 by omega), decide_eq_true (show f.mts.length ≤ 300 by omega)]; rfl)
  have HTB := Lib.hid (show ∀ k, sumT (f.pool.take k) ≤ 1000000000000000 * 3000 from fun k => sum_le _ (fun c hc => hs.pool c (List.mem_of_mem_take hc)) (by rw [List.length_take]; omega))
  have HMB := Lib.hid (show ∀ k, sumM (f.mts.take k) ≤ 9000000000000000 * 300 from fun k => sum_le _ (fun m hm => by have := hs.mts m (List.mem_of_mem_take hm); omega) (by rw [List.length_take]; omega))
  have HFB := Lib.hid (show ∀ k, sumM (f.fds.take k) ≤ 9000000000000000 * 300 from fun k => sum_le _ (fun m hm => by have := hs.fds m (List.mem_of_mem_take hm); omega) (by rw [List.length_take]; omega))
  have HSZ := Lib.hid hs
  clear HE p1 p2 p3 p4 hs
  go_enter Try.func11, Try.ntmps11
  go_wp2
  go_loopg [3, 4] f.pool.length (fun g nv iv wx => ∃ k : Nat, iv = .int .i64 k ∧ k + g = f.pool.length ∧ nv = .int .i64 ((sumT (f.pool.take k) : Nat) : Int) ∧ FBox w.heap.size Ap cp Ai ci Af cf Am cm f wx ∧ Below w.heap.size w wx)
  case atStart => exact ⟨0, rfl, by omega, by simp [sumT], BF0.out, BE0.out⟩
  case round =>
    obtain ⟨k, rfl, hkg, rfl, hbf, hbe⟩ := hrel
    have BF1 := Lib.hid hbf
    have BE1 := Lib.hid hbe
    have lt1 := hbf.lt
    obtain ⟨c0, c1, c2, c3, c4, c5, c6⟩ := hbf.cells
    clear hbf hbe
    by_cases hk : k < f.pool.length
    · have hgg : gk - 1 < gk := by omega
      obtain ⟨x, hx⟩ : ∃ x, f.pool[k]? = some x := ⟨_, List.getElem?_eq_getElem hk⟩
      obtain ⟨b, o, rfl, hbb, x0, x1, x2, x3, x4, x5⟩ := (show CRow B wr _ f.pool from Row.keep HI.out.pool fun p hp => BE1.out.cell (p := p) (by omega)).at_ hx
      have HN := Lib.hid (show sumT (f.pool.take (k + 1)) = sumT (f.pool.take k) + x.text.size from sum_next hx)
      have hb1 := HTB.out k
      have hb2 := HSZ.out.pool x (List.mem_of_getElem? hx)
      clear hx
      generalize sumT (f.pool.take k) = S at *
      go_wp2
      go_roundg (gk - 1)
      case measure => exact hgg
      case rel => exact ⟨k + 1, by go_num, by omega, by rw [HN.out]; go_num, BF1.out, BE1.out⟩
    · have HA := Lib.hid (show sumT (f.pool.take k) = sumT f.pool by rw [List.take_of_length_le (by omega)])
      have hT := HTB.out k
      rw [HA.out] at hT ⊢
      clear HA
      generalize sumT f.pool = ST at *
      go_wp2
      go_loopg [3, 5] f.mts.length (fun g nv iv wx => ∃ k : Nat, iv = .int .i64 k ∧ k + g = f.mts.length ∧ nv = .int .i64 ((ST + sumM (f.mts.take k) : Nat) : Int) ∧ FBox w.heap.size Ap cp Ai ci Af cf Am cm f wx ∧ Below w.heap.size w wx)
      case atStart => exact ⟨0, rfl, by omega, by simp [sumM], BF1.out, BE1.out⟩
      case round =>
        obtain ⟨k, rfl, hkg, rfl, hbf, hbe⟩ := hrel
        have BF2 := Lib.hid hbf
        have BE2 := Lib.hid hbe
        have lt2 := hbf.lt
        obtain ⟨c0, c1, c2, c3, c4, c5, c6⟩ := hbf.cells
        clear hbf hbe
        by_cases hk : k < f.mts.length
        · have hgg : gk - 1 < gk := by omega
          obtain ⟨x, hx⟩ : ∃ x, f.mts[k]? = some x := ⟨_, List.getElem?_eq_getElem hk⟩
          obtain ⟨b, o, A2, c2', rfl, hbb, hrow, x0, x1, x2, x3, x4, x5, x6⟩ := (show MRow B wr _ f.mts from HI.out.mts.keep fun p hp => BE2.out.cell (p := p) (by omega)).at_ hx
          have HN := Lib.hid (show sumM (f.mts.take (k + 1)) = sumM (f.mts.take k) + (x.code.size + 8 * x.hs.length) from sum_next hx)
          have hb1 := HMB.out k
          have hb2 := HSZ.out.mts x (List.mem_of_getElem? hx)
          obtain ⟨hb3, hb4⟩ := hb2
          clear hx hrow
          generalize sumM (f.mts.take k) = S at *
          go_wp2
          have w1 : IntKind.i64.wrap (((ST + S : Nat) : Int) + (x.code.size : Int)) = (((ST + S : Nat) : Int) + (x.code.size : Int)) := IntWalk.i64_in _ (by omega)
          have w2 : IntKind.i64.wrap (8 * (x.hs.length : Int)) = 8 * (x.hs.length : Int) := IntWalk.i64_in _ (by omega)
          have w3 : IntKind.i64.wrap (((ST + S : Nat) : Int) + (x.code.size : Int) + 8 * (x.hs.length : Int)) = (((ST + S : Nat) : Int) + (x.code.size : Int) + 8 * (x.hs.length : Int)) := IntWalk.i64_in _ (by omega)
          go_quiet (fail)
          clear w1 w2 w3
          go_wp2
          go_roundg (gk - 1)
          case measure => exact hgg
          case rel => exact ⟨k + 1, by go_num, by omega, by rw [HN.out]; exact congrArg _ (by omega), BF2.out, below_drewN BE2.out _⟩
        · have HA := Lib.hid (show sumM (f.mts.take k) = sumM f.mts by rw [List.take_of_length_le (by omega)])
          have hT2 := HMB.out k
          rw [HA.out] at hT2 ⊢
          clear HA
          generalize sumM f.mts = SM at *
          go_wp2
          go_loopg [3, 6] f.fds.length (fun g nv iv wx => ∃ k : Nat, iv = .int .i64 k ∧ k + g = f.fds.length ∧ nv = .int .i64 ((ST + SM + sumM (f.fds.take k) : Nat) : Int) ∧ FBox w.heap.size Ap cp Ai ci Af cf Am cm f wx ∧ Below w.heap.size w wx)
          case atStart => exact ⟨0, rfl, by omega, by simp [sumM], BF2.out, BE2.out⟩
          case round =>
            obtain ⟨k, rfl, hkg, rfl, hbf, hbe⟩ := hrel
            have BF2 := Lib.hid hbf
            have BE2 := Lib.hid hbe
            have lt2 := hbf.lt
            obtain ⟨c0, c1, c2, c3, c4, c5, c6⟩ := hbf.cells
            clear hbf hbe
            by_cases hk : k < f.fds.length
            · have hgg : gk - 1 < gk := by omega
              obtain ⟨x, hx⟩ : ∃ x, f.fds[k]? = some x := ⟨_, List.getElem?_eq_getElem hk⟩
              obtain ⟨b, o, A2, c2', rfl, hbb, hrow, x0, x1, x2, x3, x4, x5, x6⟩ := (show MRow B wr _ f.fds from HI.out.fds.keep fun p hp => BE2.out.cell (p := p) (by omega)).at_ hx
              have HN := Lib.hid (show sumM (f.fds.take (k + 1)) = sumM (f.fds.take k) + (x.code.size + 8 * x.hs.length) from sum_next hx)
              have hb1 := HFB.out k
              have hb2 := HSZ.out.fds x (List.mem_of_getElem? hx)
              obtain ⟨hb3, hb4⟩ := hb2
              clear hx hrow
              generalize sumM (f.fds.take k) = S at *
              go_wp2
              have w1 : IntKind.i64.wrap (((ST + SM + S : Nat) : Int) + (x.code.size : Int)) = (((ST + SM + S : Nat) : Int) + (x.code.size : Int)) := IntWalk.i64_in _ (by omega)
              have w2 : IntKind.i64.wrap (8 * (x.hs.length : Int)) = 8 * (x.hs.length : Int) := IntWalk.i64_in _ (by omega)
              have w3 : IntKind.i64.wrap (((ST + SM + S : Nat) : Int) + (x.code.size : Int) + 8 * (x.hs.length : Int)) = (((ST + SM + S : Nat) : Int) + (x.code.size : Int) + 8 * (x.hs.length : Int)) := IntWalk.i64_in _ (by omega)
              go_quiet (fail)
              clear w1 w2 w3
              go_wp2
              go_roundg (gk - 1)
              case measure => exact hgg
              case rel => exact ⟨k + 1, by go_num, by omega, by rw [HN.out]; exact congrArg _ (by omega), BF2.out, below_drewN BE2.out _⟩
            · have HA := Lib.hid (show sumM (f.fds.take k) = sumM f.fds by rw [List.take_of_length_le (by omega)])
              have hT2 := HFB.out k
              rw [HA.out] at hT2 ⊢
              clear HA
              generalize sumM f.fds = SF at *
              go_wp2
              go_ret
              exact ⟨ret_b (by rw [HR.out, Bool.eq_iff_iff, decide_eq_true_eq, decide_eq_true_eq]; omega), BE2.out⟩
/-- A member has that name and that descriptor. -/
def isM (p : List Cn) (a b : ByteArray) (m : Mb) : Bool := decide (textP p m.nm = a) && decide (textP p m.ds = b)
/-- r is the first place at which g holds; -1: it holds nowhere. -/
def FindR (g : Mb → Bool) (ms : List Mb) (r : Int) : Prop := (∃ k m, ms[k]? = some m ∧ g m = true ∧ (ms.take k).any g = false ∧ r = (k : Nat)) ∨ (ms.any g = false ∧ r = -1)
set_option maxRecDepth 1000000 in
set_option maxHeartbeats 6400000 in
theorem Find_any {B : Nat} (f : Fl) (v : Value) (w : World) (hf : FileAt B w v f) (hB : B ≤ w.heap.size) (a b : ByteArray) :
    Calls Try.prog 20 #[v, .string a, .string b] w fun e w' => ∃ r, e = .returned (.int .i64 r) ∧ FindR (isM f.pool a b) f.mts r ∧ Below w.heap.size w w' := by
  obtain ⟨hm1, hm2, hm3, hm4⟩ := hf.max
  have HT := Lib.hid (fun V W hW hWB i => textOf_any (B := B) f V W hW hWB i)
  obtain ⟨Ap, cp, Ai, ci, Af, cf, Am, cm, rfl, hi⟩ := id hf
  have HI := Lib.hid hi
  have BE0 := Lib.hid ((Below.refl w.heap.size w).alloc (Nat.le_refl _) (.cells #[.slice Ap f.pool.length cp, .int .i64 f.fl, .int .i64 f.this, .int .i64 f.super, .slice Ai f.ifs.length ci, .slice Af f.fds.length cf, .slice Am f.mts.length cm] 26))
  have BF0 := Lib.hid (FBox.new Ap cp Ai ci Af cf Am cm f w)
  clear hi hf
  go_enter Try.func20, Try.ntmps20
  go_wp2
  go_loopg [12] f.mts.length (fun g iv wx => ∃ k : Nat, iv = .int .i64 k ∧ k + g = f.mts.length ∧ (f.mts.take k).any (isM f.pool a b) = false ∧ FBox w.heap.size Ap cp Ai ci Af cf Am cm f wx ∧ Below w.heap.size w wx)
  case atStart => exact ⟨0, rfl, by omega, by simp, BF0.out, BE0.out⟩
  case round =>
    obtain ⟨k, rfl, hkg, hany, hbf, hbe⟩ := hrel
    have HANY := Lib.hid hany
    have BF1 := Lib.hid hbf
    have BE1 := Lib.hid hbe
    have lt1 := hbf.lt
    obtain ⟨c0, c1, c2, c3, c4, c5, c6⟩ := hbf.cells
    clear hbf hbe hany
    by_cases hk : k < f.mts.length
    · have hgg : gk - 1 < gk := by omega
      obtain ⟨x, hx⟩ : ∃ x, f.mts[k]? = some x := ⟨_, List.getElem?_eq_getElem hk⟩
      have hII := HI.out.keep (w' := wr) (fun p hp => BE1.out.cell (p := p) (by omega))
      obtain ⟨p, o, A2, c2', rfl, hbb, hrow, x0, x1, x2, x3, x4, x5, x6⟩ := hII.mts.at_ hx
      have FL1 := Lib.hid (hII.at_.alloc (by omega) (.cells #[.int .i64 x.fl, .int .i64 x.nm, .int .i64 x.ds, .int .i64 x.ms, .int .i64 x.ml, .string x.code, .slice A2 x.hs.length c2'] 38))
      have FL1w := Lib.hid hII.at_
      have HNX := Lib.hid (any_next hx HANY.out)
      have HIS := Lib.hid (show isM f.pool a b x = (decide (textP f.pool x.nm = a) && decide (textP f.pool x.ds = b)) from rfl)
      have HX := Lib.hid hx
      have BE2 := Lib.hid (BE1.out.alloc (by omega) (.cells #[.int .i64 x.fl, .int .i64 x.nm, .int .i64 x.ds, .int .i64 x.ms, .int .i64 x.ml, .string x.code, .slice A2 x.hs.length c2'] 38))
      have BF2 := Lib.hid (BF1.out.alloc (.cells #[.int .i64 x.fl, .int .i64 x.nm, .int .i64 x.ds, .int .i64 x.ms, .int .i64 x.ml, .string x.code, .slice A2 x.hs.length c2'] 38))
      have MB2 := Lib.hid (MBox.new x A2 c2' wr)
      clear hx hrow hII
      have HT1 := Lib.hid (fun V W hW hWB => HT.out V W hW hWB x.nm)
      have HT2 := Lib.hid (fun V W hW hWB => HT.out V W hW hWB x.ds)
      generalize textP f.pool x.nm = t1 at *
      generalize textP f.pool x.ds = t2 at *
      cases hn : decide (t1 = a) with
      | false =>
        have hs1 : (t1.toList == a.toList) = false := (str_beq _ _).trans hn
        have HF := Lib.hid (show isM f.pool a b x = false by rw [HIS.out, hn]; rfl)
        clear hn
        go_wp2_with fail
        refine (HT1.out _ _ FL1.out (by simp; omega)).mono ?_
        rintro e w2 ⟨rfl, hb⟩
        have BE3 := Lib.hid (Below.link BE2.out hb)
        have BF3 := Lib.hid (BF2.out.below hb (BF2.out.lt))
        clear hb c0 c1 c2 c3 c4 c5 c6 x0 x1 x2 x3 x4 x5 x6
        go_wp2
        go_roundg (gk - 1)
        case measure => exact hgg
        case rel => exact ⟨k + 1, by go_num, by omega, HNX.out.trans HF.out, BF3.out, BE3.out⟩
      | true =>
        have hn1 : t1 = a := of_decide_eq_true hn
        cases hd : decide (t2 = b) with
        | false =>
          have hs2 : (t2.toList == b.toList) = false := (str_beq _ _).trans hd
          have HF := Lib.hid (show isM f.pool a b x = false by rw [HIS.out, hn, hd]; rfl)
          clear hn hd
          subst hn1
          go_wp2_with fail
          refine (HT1.out _ _ FL1.out (by simp; omega)).mono ?_
          rintro e w2 ⟨rfl, hb⟩
          have BE3 := Lib.hid (Below.link BE2.out hb)
          have BF3 := Lib.hid (BF2.out.below hb (BF2.out.lt))
          have FL3 := Lib.hid (FL1.out.below hb (by simp; omega))
          have MB3 := Lib.hid (MB2.out.below hb (MB2.out.lt))
          have lt3 := MB3.out.lt
          have lt4 := BF3.out.lt
          clear hb c0 c1 c2 c3 c4 c5 c6 x0 x1 x2 x3 x4 x5 x6
          obtain ⟨c0, c1, c2, c3, c4, c5, c6⟩ := BF3.out.cells
          obtain ⟨x0, x1, x2, x3, x4, x5, x6⟩ := MB3.out.cells
          go_wp2_with fail
          refine (HT2.out _ _ FL3.out (by omega)).mono ?_
          rintro e w3 ⟨rfl, hb⟩
          have BE4 := Lib.hid (Below.link BE3.out hb)
          have BF4 := Lib.hid (BF3.out.below hb (BF3.out.lt))
          clear hb c0 c1 c2 c3 c4 c5 c6 x0 x1 x2 x3 x4 x5 x6
          go_wp2
          go_roundg (gk - 1)
          case measure => exact hgg
          case rel => exact ⟨k + 1, by go_num, by omega, HNX.out.trans HF.out, BF4.out, BE4.out⟩
        | true =>
          have hd1 : t2 = b := of_decide_eq_true hd
          have HF := Lib.hid (show isM f.pool a b x = true by rw [HIS.out, hn, hd]; rfl)
          clear hn hd
          subst hn1 hd1
          go_wp2_with fail
          refine (HT1.out _ _ FL1.out (by simp; omega)).mono ?_
          rintro e w2 ⟨rfl, hb⟩
          have BE3 := Lib.hid (Below.link BE2.out hb)
          have BF3 := Lib.hid (BF2.out.below hb (BF2.out.lt))
          have FL3 := Lib.hid (FL1.out.below hb (by simp; omega))
          have MB3 := Lib.hid (MB2.out.below hb (MB2.out.lt))
          have lt3 := MB3.out.lt
          have lt4 := BF3.out.lt
          clear hb c0 c1 c2 c3 c4 c5 c6 x0 x1 x2 x3 x4 x5 x6
          obtain ⟨c0, c1, c2, c3, c4, c5, c6⟩ := BF3.out.cells
          obtain ⟨x0, x1, x2, x3, x4, x5, x6⟩ := MB3.out.cells
          go_wp2_with fail
          refine (HT2.out _ _ FL3.out (by omega)).mono ?_
          rintro e w3 ⟨rfl, hb⟩
          have BE4 := Lib.hid (Below.link BE3.out hb)
          have BF4 := Lib.hid (BF3.out.below hb (BF3.out.lt))
          clear hb c0 c1 c2 c3 c4 c5 c6 x0 x1 x2 x3 x4 x5 x6
          go_wp2
          go_ret
          exact ⟨_, rfl, .inl ⟨k, x, HX.out, HF.out, HANY.out, rfl⟩, BE4.out⟩
    · have HA := Lib.hid (show f.mts.any (isM f.pool a b) = false by have := HANY.out; rwa [List.take_of_length_le (by omega)] at this)
      go_wp2
      go_ret
      exact ⟨_, rfl, .inr ⟨HA.out, rfl⟩, BE1.out⟩
end Go.Proofs.Ytcgloepfnnfioaa
