/-
  PROVED: for every file that may be, every link and every two texts, names, classes and methods are found as the document's own answer says, and each method by its own name and descriptor (files and texts above the sizes that the statement names are passed by). No condition.
-/
import Derived.Test.YtcgloepfnnfioaaOf
import Derived.Test.YtcgloepfnnfioaaR11
import Derived.Test.YtcgloepfnnfioaaN1
set_option linter.unusedVariables false
set_option linter.unusedSimpArgs false
namespace Go.Proofs.Ytcgloepfnnfioaa
open Go.RowKit

set_option maxRecDepth 1000000 in
set_option maxHeartbeats 12800000 in
theorem finds_walk {B : Nat} (f : Fl) (v : Value) (w : World) (hf : FileAt B w v f) (hB : B ≤ w.heap.size) (hs : FitsF f) (l : Int) (a b : ByteArray) :
    Calls Try.prog 4 #[v, .int .i64 l, .string a, .string b] w fun e w' => e = .returned (.bool true) ∧ Below w.heap.size w w' := by
  obtain ⟨hm1, hm2, hm3, hm4⟩ := hf.max
  have HS := Lib.hid (fun V W hW hWB => Small_any (B := B) f V W hW hWB hs)
  have HN := Lib.hid (fun V W hW hWB i => Name_file (B := B) f V W hW hWB i)
  have HN1 := Lib.hid (fun V W hW hWB => Name_file (B := B) f V W hW hWB l)
  have HN2 := Lib.hid (fun V W hW hWB => refName_file (B := B) f V W hW hWB l)
  have HC1 := Lib.hid (fun V W hW hWB => ClassName_any (B := B) f V W hW hWB l)
  have HC2 := Lib.hid (fun V W hW hWB => refClassName_any (B := B) f V W hW hWB l)
  have HFI := Lib.hid (fun V W hW hWB x y => Find_any (B := B) f V W hW hWB x y)
  have HFN := Lib.hid (fun h => encF_fine (f := f) h)
  obtain ⟨Ap, cp, Ai, ci, Af, cf, Am, cm, rfl, hi⟩ := id hf
  have HI := Lib.hid hi
  have BE0 := Lib.hid ((Below.refl w.heap.size w).alloc (Nat.le_refl _) (.cells #[.slice Ap f.pool.length cp, .int .i64 f.fl, .int .i64 f.this, .int .i64 f.super, .slice Ai f.ifs.length ci, .slice Af f.fds.length cf, .slice Am f.mts.length cm] 26))
  have BF0 := Lib.hid (FBox.new Ap cp Ai ci Af cf Am cm f w)
  have FL0 := Lib.hid (hf.alloc hB (.cells #[.slice Ap f.pool.length cp, .int .i64 f.fl, .int .i64 f.this, .int .i64 f.super, .slice Ai f.ifs.length ci, .slice Af f.fds.length cf, .slice Am f.mts.length cm] 26))
  clear hi hf hs
  cases hsm : smallB f with
  | false =>
    rw [hsm] at HS
    clear hsm
    go_enter Try.func4, Try.ntmps4
    go_wp2_with fail
    refine (shown_any _).mono ?_
    rintro e w1 ⟨rfl, hb⟩
    have BE1 := Lib.hid (Below.link BE0.out hb)
    have FL1 := Lib.hid (FL0.out.below hb (Nat.le_trans hB BE0.out.size))
    have BF1 := Lib.hid (BF0.out.below hb BF0.out.lt)
    have ltBF1 := BF1.out.lt
    clear hb
    obtain ⟨c0, c1, c2, c3, c4, c5, c6⟩ := BF1.out.cells
    go_wp2_with fail
    refine (HS.out _ _ FL1.out (Nat.le_trans hB BE1.out.size)).mono ?_
    rintro e w2 ⟨rfl, hb⟩
    have BE2 := Lib.hid (Below.link BE1.out hb)
    have FL2 := Lib.hid (FL1.out.below hb (Nat.le_trans hB BE1.out.size))
    have BF2 := Lib.hid (BF1.out.below hb BF1.out.lt)
    have ltBF2 := BF2.out.lt
    clear hb
    clear c0 c1 c2 c3 c4 c5 c6
    obtain ⟨c0, c1, c2, c3, c4, c5, c6⟩ := BF2.out.cells
    go_wp2
    go_ret
    exact ⟨rfl, BE2.out⟩
  | true =>
    have hx := small_pool hsm
    have HR2 := Lib.hid (fun V W hW hWB => refRight_file (B := B) f V W hW hWB (textP_small hx) hx)
    rw [hsm] at HS
    clear hsm hx
    rcases (Classical.em (encF f = 0)).symm with he | he
    · have hne := ne_beq he
      have hne' : (encF f != 0) = true := by simpa using he
      clear he
      go_enter Try.func4, Try.ntmps4
      go_wp2_with fail
      refine (shown_any _).mono ?_
      rintro e w1 ⟨rfl, hb⟩
      have BE1 := Lib.hid (Below.link BE0.out hb)
      have FL1 := Lib.hid (FL0.out.below hb (Nat.le_trans hB BE0.out.size))
      have BF1 := Lib.hid (BF0.out.below hb BF0.out.lt)
      have ltBF1 := BF1.out.lt
      clear hb
      obtain ⟨c0, c1, c2, c3, c4, c5, c6⟩ := BF1.out.cells
      go_wp2_with fail
      refine (HS.out _ _ FL1.out (Nat.le_trans hB BE1.out.size)).mono ?_
      rintro e w2 ⟨rfl, hb⟩
      have BE2 := Lib.hid (Below.link BE1.out hb)
      have FL2 := Lib.hid (FL1.out.below hb (Nat.le_trans hB BE1.out.size))
      have BF2 := Lib.hid (BF1.out.below hb BF1.out.lt)
      have ltBF2 := BF2.out.lt
      clear hb
      clear c0 c1 c2 c3 c4 c5 c6
      obtain ⟨c0, c1, c2, c3, c4, c5, c6⟩ := BF2.out.cells
      go_wp2_with fail
      refine (HR2.out _ _ FL2.out (Nat.le_trans hB BE2.out.size)).mono ?_
      rintro e w3 ⟨rfl, hb⟩
      have BE3 := Lib.hid (Below.link BE2.out hb)
      have FL3 := Lib.hid (FL2.out.below hb (Nat.le_trans hB BE2.out.size))
      have BF3 := Lib.hid (BF2.out.below hb BF2.out.lt)
      have ltBF3 := BF3.out.lt
      clear hb
      clear c0 c1 c2 c3 c4 c5 c6
      obtain ⟨c0, c1, c2, c3, c4, c5, c6⟩ := BF3.out.cells
      go_wp2
      go_ret
      exact ⟨rfl, BE3.out⟩
    · have HFINE := Lib.hid (HFN.out he)
      rw [he] at HR2
      clear he HFN
      by_cases ha : 10000 < a.size
      · have ha' : (10000 : Int) < a.size := by omega
        clear ha
        go_enter Try.func4, Try.ntmps4
        go_wp2_with fail
        refine (shown_any _).mono ?_
        rintro e w1 ⟨rfl, hb⟩
        have BE1 := Lib.hid (Below.link BE0.out hb)
        have FL1 := Lib.hid (FL0.out.below hb (Nat.le_trans hB BE0.out.size))
        have BF1 := Lib.hid (BF0.out.below hb BF0.out.lt)
        have ltBF1 := BF1.out.lt
        clear hb
        obtain ⟨c0, c1, c2, c3, c4, c5, c6⟩ := BF1.out.cells
        go_wp2_with fail
        refine (HS.out _ _ FL1.out (Nat.le_trans hB BE1.out.size)).mono ?_
        rintro e w2 ⟨rfl, hb⟩
        have BE2 := Lib.hid (Below.link BE1.out hb)
        have FL2 := Lib.hid (FL1.out.below hb (Nat.le_trans hB BE1.out.size))
        have BF2 := Lib.hid (BF1.out.below hb BF1.out.lt)
        have ltBF2 := BF2.out.lt
        clear hb
        clear c0 c1 c2 c3 c4 c5 c6
        obtain ⟨c0, c1, c2, c3, c4, c5, c6⟩ := BF2.out.cells
        go_wp2_with fail
        refine (HR2.out _ _ FL2.out (Nat.le_trans hB BE2.out.size)).mono ?_
        rintro e w3 ⟨rfl, hb⟩
        have BE3 := Lib.hid (Below.link BE2.out hb)
        have FL3 := Lib.hid (FL2.out.below hb (Nat.le_trans hB BE2.out.size))
        have BF3 := Lib.hid (BF2.out.below hb BF2.out.lt)
        have ltBF3 := BF3.out.lt
        clear hb
        clear c0 c1 c2 c3 c4 c5 c6
        obtain ⟨c0, c1, c2, c3, c4, c5, c6⟩ := BF3.out.cells
        go_wp2
        go_ret
        exact ⟨rfl, BE3.out⟩
      have ha' : (a.size : Int) ≤ 10000 := by omega
      by_cases hb' : 10000 < b.size
      · have hb2 : (10000 : Int) < b.size := by omega
        clear ha hb'
        go_enter Try.func4, Try.ntmps4
        go_wp2_with fail
        refine (shown_any _).mono ?_
        rintro e w1 ⟨rfl, hb⟩
        have BE1 := Lib.hid (Below.link BE0.out hb)
        have FL1 := Lib.hid (FL0.out.below hb (Nat.le_trans hB BE0.out.size))
        have BF1 := Lib.hid (BF0.out.below hb BF0.out.lt)
        have ltBF1 := BF1.out.lt
        clear hb
        obtain ⟨c0, c1, c2, c3, c4, c5, c6⟩ := BF1.out.cells
        go_wp2_with fail
        refine (HS.out _ _ FL1.out (Nat.le_trans hB BE1.out.size)).mono ?_
        rintro e w2 ⟨rfl, hb⟩
        have BE2 := Lib.hid (Below.link BE1.out hb)
        have FL2 := Lib.hid (FL1.out.below hb (Nat.le_trans hB BE1.out.size))
        have BF2 := Lib.hid (BF1.out.below hb BF1.out.lt)
        have ltBF2 := BF2.out.lt
        clear hb
        clear c0 c1 c2 c3 c4 c5 c6
        obtain ⟨c0, c1, c2, c3, c4, c5, c6⟩ := BF2.out.cells
        go_wp2_with fail
        refine (HR2.out _ _ FL2.out (Nat.le_trans hB BE2.out.size)).mono ?_
        rintro e w3 ⟨rfl, hb⟩
        have BE3 := Lib.hid (Below.link BE2.out hb)
        have FL3 := Lib.hid (FL2.out.below hb (Nat.le_trans hB BE2.out.size))
        have BF3 := Lib.hid (BF2.out.below hb BF2.out.lt)
        have ltBF3 := BF3.out.lt
        clear hb
        clear c0 c1 c2 c3 c4 c5 c6
        obtain ⟨c0, c1, c2, c3, c4, c5, c6⟩ := BF3.out.cells
        go_wp2
        go_ret
        exact ⟨rfl, BE3.out⟩
      have hb2 : (b.size : Int) ≤ 10000 := by omega
      clear ha hb'
      have HFR := Lib.hid (fun V W hW hWB => refFind_any (B := B) f V W hW hWB a b (fun m hm => tagged_meth HFINE.out hm))
      generalize textP f.pool l = t1 at *
      generalize tagged f.pool l 1 = b1 at *
      generalize classP f.pool l = t2 at *
      generalize classB f.pool l = b2 at *
      have q1 : (t1.toList == t1.toList) = true := by simp
      have q2 : (t2.toList == t2.toList) = true := by simp
      have q3 : (b1 != b1) = false := by simp
      have q4 : (b2 != b2) = false := by simp
      have q5 : (b1 == b1) = true := by simp
      have q6 : (b2 == b2) = true := by simp
      go_enter Try.func4, Try.ntmps4
      go_wp2_with fail
      refine (shown_any _).mono ?_
      rintro e w1 ⟨rfl, hb⟩
      have BE1 := Lib.hid (Below.link BE0.out hb)
      have FL1 := Lib.hid (FL0.out.below hb (Nat.le_trans hB BE0.out.size))
      have BF1 := Lib.hid (BF0.out.below hb BF0.out.lt)
      have ltBF1 := BF1.out.lt
      clear hb
      obtain ⟨c0, c1, c2, c3, c4, c5, c6⟩ := BF1.out.cells
      go_wp2_with fail
      refine (HS.out _ _ FL1.out (Nat.le_trans hB BE1.out.size)).mono ?_
      rintro e w2 ⟨rfl, hb⟩
      have BE2 := Lib.hid (Below.link BE1.out hb)
      have FL2 := Lib.hid (FL1.out.below hb (Nat.le_trans hB BE1.out.size))
      have BF2 := Lib.hid (BF1.out.below hb BF1.out.lt)
      have ltBF2 := BF2.out.lt
      clear hb
      clear c0 c1 c2 c3 c4 c5 c6
      obtain ⟨c0, c1, c2, c3, c4, c5, c6⟩ := BF2.out.cells
      go_wp2_with fail
      refine (HR2.out _ _ FL2.out (Nat.le_trans hB BE2.out.size)).mono ?_
      rintro e w3 ⟨rfl, hb⟩
      have BE3 := Lib.hid (Below.link BE2.out hb)
      have FL3 := Lib.hid (FL2.out.below hb (Nat.le_trans hB BE2.out.size))
      have BF3 := Lib.hid (BF2.out.below hb BF2.out.lt)
      have ltBF3 := BF3.out.lt
      clear hb
      clear c0 c1 c2 c3 c4 c5 c6
      obtain ⟨c0, c1, c2, c3, c4, c5, c6⟩ := BF3.out.cells
      go_wp2_with fail
      refine (HN1.out _ _ FL3.out (Nat.le_trans hB BE3.out.size)).mono ?_
      rintro e w4 ⟨rfl, hb⟩
      have BE4 := Lib.hid (Below.link BE3.out hb)
      have FL4 := Lib.hid (FL3.out.below hb (Nat.le_trans hB BE3.out.size))
      have BF4 := Lib.hid (BF3.out.below hb BF3.out.lt)
      have ltBF4 := BF4.out.lt
      clear hb
      clear c0 c1 c2 c3 c4 c5 c6
      obtain ⟨c0, c1, c2, c3, c4, c5, c6⟩ := BF4.out.cells
      go_wp2_with fail
      refine (HN2.out _ _ FL4.out (Nat.le_trans hB BE4.out.size)).mono ?_
      rintro e w5 ⟨rfl, hb⟩
      have BE5 := Lib.hid (Below.link BE4.out hb)
      have FL5 := Lib.hid (FL4.out.below hb (Nat.le_trans hB BE4.out.size))
      have BF5 := Lib.hid (BF4.out.below hb BF4.out.lt)
      have ltBF5 := BF5.out.lt
      clear hb
      clear c0 c1 c2 c3 c4 c5 c6
      obtain ⟨c0, c1, c2, c3, c4, c5, c6⟩ := BF5.out.cells
      go_wp2_with fail
      refine (HC1.out _ _ FL5.out (Nat.le_trans hB BE5.out.size)).mono ?_
      rintro e w6 ⟨rfl, hb⟩
      have BE6 := Lib.hid (Below.link BE5.out hb)
      have FL6 := Lib.hid (FL5.out.below hb (Nat.le_trans hB BE5.out.size))
      have BF6 := Lib.hid (BF5.out.below hb BF5.out.lt)
      have ltBF6 := BF6.out.lt
      clear hb
      clear c0 c1 c2 c3 c4 c5 c6
      obtain ⟨c0, c1, c2, c3, c4, c5, c6⟩ := BF6.out.cells
      go_wp2_with fail
      refine (HC2.out _ _ FL6.out (Nat.le_trans hB BE6.out.size)).mono ?_
      rintro e w7 ⟨rfl, hb⟩
      have BE7 := Lib.hid (Below.link BE6.out hb)
      have FL7 := Lib.hid (FL6.out.below hb (Nat.le_trans hB BE6.out.size))
      have BF7 := Lib.hid (BF6.out.below hb BF6.out.lt)
      have ltBF7 := BF7.out.lt
      clear hb
      clear c0 c1 c2 c3 c4 c5 c6
      obtain ⟨c0, c1, c2, c3, c4, c5, c6⟩ := BF7.out.cells
      go_wp2
      refine wp_region_held_drew (S := (fun w' => FBox w.heap.size Ap cp Ai ci Af cf Am cm f w' ∧ FileAt B w' (.agg #[.slice Ap f.pool.length cp, .int .i64 f.fl, .int .i64 f.this, .int .i64 f.super, .slice Ai f.ifs.length ci, .slice Af f.fds.length cf, .slice Am f.mts.length cm]) f ∧ w'.cell? ⟨w.heap.size, 0, none⟩ = some (.slice Ap f.pool.length cp) ∧ w'.cell? ⟨w.heap.size, 1, none⟩ = some (.int .i64 f.fl) ∧ w'.cell? ⟨w.heap.size, 2, none⟩ = some (.int .i64 f.this) ∧ w'.cell? ⟨w.heap.size, 3, none⟩ = some (.int .i64 f.super) ∧ w'.cell? ⟨w.heap.size, 4, none⟩ = some (.slice Ai f.ifs.length ci) ∧ w'.cell? ⟨w.heap.size, 5, none⟩ = some (.slice Af f.fds.length cf) ∧ w'.cell? ⟨w.heap.size, 6, none⟩ = some (.slice Am f.mts.length cm) ∧ w.heap.size ≤ w'.heap.size ∧ Below w.heap.size w w')) (by kernel_rfl) (⟨BF7.out.drew, FL7.out.drew, c0, c1, c2, c3, c4, c5, c6, BE7.out.size, BE7.out.drew⟩) (fun hHeld => ?_)
      refine wpAnyH_take (i := 0) (oi := ({ dst := some 71, op := Op.move (Operand.tmp 11), type := 9, pos := "law.go:100", after := #[], guard := none } : Oper)) (v := ?v1x0) rfl (by kernel_rfl) (by kernel_rfl) (by kernel_rfl) (fun _ _ _ h => h) (Or.inl ⟨by rfl, ?hy1x0⟩) hHeld ?_
      case hy1x0 => ((intro w hSw); (try dsimp only at hSw); go_simp; try with_reducible rfl)
      try simp only [Act.put, List.setIfInBounds_toArray, List.set_cons_zero, List.set_cons_succ]
      refine wpAnyH_take (i := 1) (oi := ({ dst := some 72, op := Op.move (Operand.tmp 13), type := 9, pos := "law.go:100", after := #[], guard := none } : Oper)) (v := ?v1x1) rfl (by kernel_rfl) (by kernel_rfl) (by kernel_rfl) (fun _ _ _ h => h) (Or.inl ⟨by rfl, ?hy1x1⟩) hHeld ?_
      case hy1x1 => ((intro w hSw); (try dsimp only at hSw); go_simp; try with_reducible rfl)
      try simp only [Act.put, List.setIfInBounds_toArray, List.set_cons_zero, List.set_cons_succ]
      refine wpAnyH_take (i := 2) (oi := ({ dst := some 73, op := Op.binOp BinOp.neq 9 (Operand.tmp 71) (Operand.tmp 72) 9, type := 4, pos := "law.go:100", after := #[{ on := 0, ground := Ground.data }, { on := 1, ground := Ground.data }], guard := none } : Oper)) (v := ?v1x2) rfl (by kernel_rfl) (by kernel_rfl) (by kernel_rfl) (fun _ _ _ h => h) (Or.inl ⟨by rfl, ?hy1x2⟩) hHeld ?_
      case hy1x2 => ((intro w hSw); (try dsimp only at hSw); go_simp; try with_reducible rfl)
      try simp only [Act.put, List.setIfInBounds_toArray, List.set_cons_zero, List.set_cons_succ]
      refine wpAnyH_take (i := 3) (oi := ({ dst := some 74, op := Op.move (Operand.tmp 73), type := 4, pos := "law.go:100", after := #[{ on := 2, ground := Ground.data }], guard := none } : Oper)) (v := ?v1x3) rfl (by kernel_rfl) (by kernel_rfl) (by kernel_rfl) (fun _ _ _ h => h) (Or.inl ⟨by rfl, ?hy1x3⟩) hHeld ?_
      case hy1x3 => ((intro w hSw); (try dsimp only at hSw); go_simp; try with_reducible rfl)
      try simp only [Act.put, List.setIfInBounds_toArray, List.set_cons_zero, List.set_cons_succ]
      refine wpAnyH_take (i := 4) (oi := ({ dst := some 75, op := Op.move (Operand.tmp 12), type := 4, pos := "law.go:100", after := #[{ on := 3, ground := Ground.guard }], guard := some (3, false) } : Oper)) (v := ?v1x4) rfl (by kernel_rfl) (by kernel_rfl) (by kernel_rfl) (fun _ _ _ h => h) (Or.inl ⟨by rfl, ?hy1x4⟩) hHeld ?_
      case hy1x4 => ((intro w hSw); (try dsimp only at hSw); go_simp; try with_reducible rfl)
      try simp only [Act.put, List.setIfInBounds_toArray, List.set_cons_zero, List.set_cons_succ]
      refine wpAnyH_take (i := 5) (oi := ({ dst := some 76, op := Op.move (Operand.tmp 14), type := 4, pos := "law.go:100", after := #[{ on := 3, ground := Ground.guard }], guard := some (3, false) } : Oper)) (v := ?v1x5) rfl (by kernel_rfl) (by kernel_rfl) (by kernel_rfl) (fun _ _ _ h => h) (Or.inl ⟨by rfl, ?hy1x5⟩) hHeld ?_
      case hy1x5 => ((intro w hSw); (try dsimp only at hSw); go_simp; try with_reducible rfl)
      try simp only [Act.put, List.setIfInBounds_toArray, List.set_cons_zero, List.set_cons_succ]
      refine wpAnyH_take (i := 6) (oi := ({ dst := some 77, op := Op.binOp BinOp.neq 4 (Operand.tmp 75) (Operand.tmp 76) 4, type := 4, pos := "law.go:100", after := #[{ on := 4, ground := Ground.data }, { on := 5, ground := Ground.data }, { on := 3, ground := Ground.guard }], guard := some (3, false) } : Oper)) (v := ?v1x6) rfl (by kernel_rfl) (by kernel_rfl) (by kernel_rfl) (fun _ _ _ h => h) (Or.inl ⟨by rfl, ?hy1x6⟩) hHeld ?_
      case hy1x6 => ((intro w hSw); (try dsimp only at hSw); go_simp; try with_reducible rfl)
      try simp only [Act.put, List.setIfInBounds_toArray, List.set_cons_zero, List.set_cons_succ]
      refine wpAnyH_take (i := 7) (oi := ({ dst := some 78, op := Op.pick (Operand.tmp 74) (Operand.const (Value.bool true)) (Operand.tmp 77), type := 4, pos := "law.go:100", after := #[{ on := 3, ground := Ground.data }, { on := 6, ground := Ground.data }], guard := none } : Oper)) (v := ?v1x7) rfl (by kernel_rfl) (by kernel_rfl) (by kernel_rfl) (fun _ _ _ h => h) (Or.inl ⟨by rfl, ?hy1x7⟩) hHeld ?_
      case hy1x7 => ((intro w hSw); (try dsimp only at hSw); go_simp; try with_reducible rfl)
      try simp only [Act.put, List.setIfInBounds_toArray, List.set_cons_zero, List.set_cons_succ]
      refine wpAnyH_take (i := 8) (oi := ({ dst := some 79, op := Op.move (Operand.tmp 78), type := 4, pos := "law.go:100", after := #[{ on := 7, ground := Ground.data }, { on := 3, ground := Ground.chain }], guard := none } : Oper)) (v := ?v1x8) rfl (by kernel_rfl) (by kernel_rfl) (by kernel_rfl) (fun _ _ _ h => h) (Or.inl ⟨by rfl, ?hy1x8⟩) hHeld ?_
      case hy1x8 => ((intro w hSw); (try dsimp only at hSw); go_simp; try with_reducible rfl)
      try simp only [Act.put, List.setIfInBounds_toArray, List.set_cons_zero, List.set_cons_succ]
      refine wpAnyH_take (i := 9) (oi := ({ dst := some 80, op := Op.move (Operand.tmp 15), type := 9, pos := "law.go:100", after := #[{ on := 8, ground := Ground.guard }], guard := some (8, false) } : Oper)) (v := ?v1x9) rfl (by kernel_rfl) (by kernel_rfl) (by kernel_rfl) (fun _ _ _ h => h) (Or.inl ⟨by rfl, ?hy1x9⟩) hHeld ?_
      case hy1x9 => ((intro w hSw); (try dsimp only at hSw); go_simp; try with_reducible rfl)
      try simp only [Act.put, List.setIfInBounds_toArray, List.set_cons_zero, List.set_cons_succ]
      refine wpAnyH_take (i := 10) (oi := ({ dst := some 81, op := Op.move (Operand.tmp 17), type := 9, pos := "law.go:100", after := #[{ on := 8, ground := Ground.guard }], guard := some (8, false) } : Oper)) (v := ?v1x10) rfl (by kernel_rfl) (by kernel_rfl) (by kernel_rfl) (fun _ _ _ h => h) (Or.inl ⟨by rfl, ?hy1x10⟩) hHeld ?_
      case hy1x10 => ((intro w hSw); (try dsimp only at hSw); go_simp; try with_reducible rfl)
      try simp only [Act.put, List.setIfInBounds_toArray, List.set_cons_zero, List.set_cons_succ]
      refine wpAnyH_take (i := 11) (oi := ({ dst := some 82, op := Op.binOp BinOp.neq 9 (Operand.tmp 80) (Operand.tmp 81) 9, type := 4, pos := "law.go:100", after := #[{ on := 9, ground := Ground.data }, { on := 10, ground := Ground.data }, { on := 8, ground := Ground.guard }], guard := some (8, false) } : Oper)) (v := ?v1x11) rfl (by kernel_rfl) (by kernel_rfl) (by kernel_rfl) (fun _ _ _ h => h) (Or.inl ⟨by rfl, ?hy1x11⟩) hHeld ?_
      case hy1x11 => ((intro w hSw); (try dsimp only at hSw); go_simp; try with_reducible rfl)
      try simp only [Act.put, List.setIfInBounds_toArray, List.set_cons_zero, List.set_cons_succ]
      refine wpAnyH_take (i := 12) (oi := ({ dst := some 83, op := Op.pick (Operand.tmp 79) (Operand.const (Value.bool true)) (Operand.tmp 82), type := 4, pos := "law.go:100", after := #[{ on := 8, ground := Ground.data }, { on := 11, ground := Ground.data }], guard := none } : Oper)) (v := ?v1x12) rfl (by kernel_rfl) (by kernel_rfl) (by kernel_rfl) (fun _ _ _ h => h) (Or.inl ⟨by rfl, ?hy1x12⟩) hHeld ?_
      case hy1x12 => ((intro w hSw); (try dsimp only at hSw); go_simp; try with_reducible rfl)
      try simp only [Act.put, List.setIfInBounds_toArray, List.set_cons_zero, List.set_cons_succ]
      refine wpAnyH_take (i := 13) (oi := ({ dst := some 84, op := Op.move (Operand.tmp 83), type := 4, pos := "law.go:100", after := #[{ on := 12, ground := Ground.data }, { on := 8, ground := Ground.chain }], guard := none } : Oper)) (v := ?v1x13) rfl (by kernel_rfl) (by kernel_rfl) (by kernel_rfl) (fun _ _ _ h => h) (Or.inl ⟨by rfl, ?hy1x13⟩) hHeld ?_
      case hy1x13 => ((intro w hSw); (try dsimp only at hSw); go_simp; try with_reducible rfl)
      try simp only [Act.put, List.setIfInBounds_toArray, List.set_cons_zero, List.set_cons_succ]
      refine wpAnyH_take (i := 14) (oi := ({ dst := some 85, op := Op.move (Operand.tmp 16), type := 4, pos := "law.go:100", after := #[{ on := 13, ground := Ground.guard }], guard := some (13, false) } : Oper)) (v := ?v1x14) rfl (by kernel_rfl) (by kernel_rfl) (by kernel_rfl) (fun _ _ _ h => h) (Or.inl ⟨by rfl, ?hy1x14⟩) hHeld ?_
      case hy1x14 => ((intro w hSw); (try dsimp only at hSw); go_simp; try with_reducible rfl)
      try simp only [Act.put, List.setIfInBounds_toArray, List.set_cons_zero, List.set_cons_succ]
      refine wpAnyH_take (i := 15) (oi := ({ dst := some 86, op := Op.move (Operand.tmp 18), type := 4, pos := "law.go:100", after := #[{ on := 13, ground := Ground.guard }], guard := some (13, false) } : Oper)) (v := ?v1x15) rfl (by kernel_rfl) (by kernel_rfl) (by kernel_rfl) (fun _ _ _ h => h) (Or.inl ⟨by rfl, ?hy1x15⟩) hHeld ?_
      case hy1x15 => ((intro w hSw); (try dsimp only at hSw); go_simp; try with_reducible rfl)
      try simp only [Act.put, List.setIfInBounds_toArray, List.set_cons_zero, List.set_cons_succ]
      refine wpAnyH_take (i := 16) (oi := ({ dst := some 87, op := Op.binOp BinOp.neq 4 (Operand.tmp 85) (Operand.tmp 86) 4, type := 4, pos := "law.go:100", after := #[{ on := 14, ground := Ground.data }, { on := 15, ground := Ground.data }, { on := 13, ground := Ground.guard }], guard := some (13, false) } : Oper)) (v := ?v1x16) rfl (by kernel_rfl) (by kernel_rfl) (by kernel_rfl) (fun _ _ _ h => h) (Or.inl ⟨by rfl, ?hy1x16⟩) hHeld ?_
      case hy1x16 => ((intro w hSw); (try dsimp only at hSw); go_simp; try with_reducible rfl)
      try simp only [Act.put, List.setIfInBounds_toArray, List.set_cons_zero, List.set_cons_succ]
      refine wpAnyH_take (i := 17) (oi := ({ dst := some 88, op := Op.pick (Operand.tmp 84) (Operand.const (Value.bool true)) (Operand.tmp 87), type := 4, pos := "law.go:100", after := #[{ on := 13, ground := Ground.data }, { on := 16, ground := Ground.data }], guard := none } : Oper)) (v := ?v1x17) rfl (by kernel_rfl) (by kernel_rfl) (by kernel_rfl) (fun _ _ _ h => h) (Or.inl ⟨by rfl, ?hy1x17⟩) hHeld ?_
      case hy1x17 => ((intro w hSw); (try dsimp only at hSw); go_simp; try with_reducible rfl)
      try simp only [Act.put, List.setIfInBounds_toArray, List.set_cons_zero, List.set_cons_succ]
      refine wpAnyH_take (i := 18) (oi := ({ dst := some 89, op := Op.move (Operand.tmp 88), type := 4, pos := "law.go:100", after := #[{ on := 17, ground := Ground.data }, { on := 13, ground := Ground.chain }], guard := none } : Oper)) (v := ?v1x18) rfl (by kernel_rfl) (by kernel_rfl) (by kernel_rfl) (fun _ _ _ h => h) (Or.inl ⟨by rfl, ?hy1x18⟩) hHeld ?_
      case hy1x18 => ((intro w hSw); (try dsimp only at hSw); go_simp; try with_reducible rfl)
      try simp only [Act.put, List.setIfInBounds_toArray, List.set_cons_zero, List.set_cons_succ]
      refine wpAnyH_take (i := 19) (oi := ({ dst := some 90, op := Op.load 26 (Operand.tmp 4), type := 26, pos := "law.go:100", after := #[{ on := 18, ground := Ground.guard }], guard := some (18, false) } : Oper)) (v := ?v1x19) rfl (by kernel_rfl) (by kernel_rfl) (by kernel_rfl) (fun _ _ _ h => h) (Or.inl ⟨by rfl, ?hy1x19⟩) hHeld ?_
      case hy1x19 => ((intro w hSw); (try dsimp only at hSw); go_simp; try with_reducible rfl)
      try simp only [Act.put, List.setIfInBounds_toArray, List.set_cons_zero, List.set_cons_succ]
      refine wpAnyH_take (i := 20) (oi := ({ dst := some 91, op := Op.move (Operand.tmp 2), type := 9, pos := "law.go:100", after := #[{ on := 18, ground := Ground.guard }], guard := some (18, false) } : Oper)) (v := ?v1x20) rfl (by kernel_rfl) (by kernel_rfl) (by kernel_rfl) (fun _ _ _ h => h) (Or.inl ⟨by rfl, ?hy1x20⟩) hHeld ?_
      case hy1x20 => ((intro w hSw); (try dsimp only at hSw); go_simp; try with_reducible rfl)
      try simp only [Act.put, List.setIfInBounds_toArray, List.set_cons_zero, List.set_cons_succ]
      refine wpAnyH_take (i := 21) (oi := ({ dst := some 92, op := Op.move (Operand.tmp 3), type := 9, pos := "law.go:100", after := #[{ on := 18, ground := Ground.guard }], guard := some (18, false) } : Oper)) (v := ?v1x21) rfl (by kernel_rfl) (by kernel_rfl) (by kernel_rfl) (fun _ _ _ h => h) (Or.inl ⟨by rfl, ?hy1x21⟩) hHeld ?_
      case hy1x21 => ((intro w hSw); (try dsimp only at hSw); go_simp; try with_reducible rfl)
      try simp only [Act.put, List.setIfInBounds_toArray, List.set_cons_zero, List.set_cons_succ]
      refine wpAnyH_take (i := 23) (oi := ({ dst := some 94, op := Op.load 26 (Operand.tmp 4), type := 26, pos := "law.go:100", after := #[{ on := 18, ground := Ground.guard }], guard := some (18, false) } : Oper)) (v := ?v1x23) rfl (by kernel_rfl) (by kernel_rfl) (by kernel_rfl) (fun _ _ _ h => h) (Or.inl ⟨by rfl, ?hy1x23⟩) hHeld ?_
      case hy1x23 => ((intro w hSw); (try dsimp only at hSw); go_simp; try with_reducible rfl)
      try simp only [Act.put, List.setIfInBounds_toArray, List.set_cons_zero, List.set_cons_succ]
      refine wpAnyH_take (i := 24) (oi := ({ dst := some 95, op := Op.move (Operand.tmp 2), type := 9, pos := "law.go:100", after := #[{ on := 18, ground := Ground.guard }], guard := some (18, false) } : Oper)) (v := ?v1x24) rfl (by kernel_rfl) (by kernel_rfl) (by kernel_rfl) (fun _ _ _ h => h) (Or.inl ⟨by rfl, ?hy1x24⟩) hHeld ?_
      case hy1x24 => ((intro w hSw); (try dsimp only at hSw); go_simp; try with_reducible rfl)
      try simp only [Act.put, List.setIfInBounds_toArray, List.set_cons_zero, List.set_cons_succ]
      refine wpAnyH_take (i := 25) (oi := ({ dst := some 96, op := Op.move (Operand.tmp 3), type := 9, pos := "law.go:100", after := #[{ on := 18, ground := Ground.guard }], guard := some (18, false) } : Oper)) (v := ?v1x25) rfl (by kernel_rfl) (by kernel_rfl) (by kernel_rfl) (fun _ _ _ h => h) (Or.inl ⟨by rfl, ?hy1x25⟩) hHeld ?_
      case hy1x25 => ((intro w hSw); (try dsimp only at hSw); go_simp; try with_reducible rfl)
      try simp only [Act.put, List.setIfInBounds_toArray, List.set_cons_zero, List.set_cons_succ]
      refine wpAnyH_ready (rs := [22]) (by kernel_rfl) (by simp) ?_
      refine AllReadyH.cons (o := _) rfl (fun K hK => ?_) AllReadyH.nil
      go_simp
      go_at_call 20
      refine (HFI.out _ w7.drew hHeld.2.1 (by have := hHeld.2.2.2.2.2.2.2.2.2.1; omega) a b).mono ?_
      rintro e wz0 ⟨r1, rfl, hr1, hb⟩
      try go_wp2_with fail
      have hF := FBox.below hHeld.1 hb (FBox.lt hHeld.1)
      have hFA := FileAt.below hHeld.2.1 hb (Nat.le_trans hB hHeld.2.2.2.2.2.2.2.2.2.1)
      have hss := Nat.le_trans hHeld.2.2.2.2.2.2.2.2.2.1 hb.size
      have hBE := Below.link hHeld.2.2.2.2.2.2.2.2.2.2 hb
      obtain ⟨c0', c1', c2', c3', c4', c5', c6'⟩ := hF.cells
      refine hK.out _ _ ⟨hF, hFA, c0', c1', c2', c3', c4', c5', c6', hss, hBE⟩ (fun hHeld1 => ?_)
      clear hK K hHeld hF hFA hss hBE c0' c1' c2' c3' c4' c5' c6' hb
      try simp only [Act.put, List.setIfInBounds_toArray, List.set_cons_zero, List.set_cons_succ]
      refine wpAnyH_ready (rs := [26]) (by kernel_rfl) (by simp) ?_
      refine AllReadyH.cons (o := _) rfl (fun K hK => ?_) AllReadyH.nil
      go_simp
      go_at_call 21
      refine (HFR.out _ wz0 hHeld1.2.1 (by have := hHeld1.2.2.2.2.2.2.2.2.2.1; omega)).mono ?_
      rintro e wz1 ⟨r2, rfl, hr2, hb⟩
      obtain rfl := FindR.unique hr1 hr2 (fun _ _ => rfl)
      clear hr1 hr2
      try go_wp2_with fail
      have hF := FBox.below hHeld1.1 hb (FBox.lt hHeld1.1)
      have hFA := FileAt.below hHeld1.2.1 hb (Nat.le_trans hB hHeld1.2.2.2.2.2.2.2.2.2.1)
      have hss := Nat.le_trans hHeld1.2.2.2.2.2.2.2.2.2.1 hb.size
      have hBE := Below.link hHeld1.2.2.2.2.2.2.2.2.2.2 hb
      obtain ⟨c0', c1', c2', c3', c4', c5', c6'⟩ := hF.cells
      refine hK.out _ _ ⟨hF, hFA, c0', c1', c2', c3', c4', c5', c6', hss, hBE⟩ (fun hHeld2 => ?_)
      clear hK K hHeld1 hF hFA hss hBE c0' c1' c2' c3' c4' c5' c6' hb
      try simp only [Act.put, List.setIfInBounds_toArray, List.set_cons_zero, List.set_cons_succ]
      refine wpAnyH_take (i := 27) (oi := ({ dst := some 98, op := Op.binOp BinOp.neq 3 (Operand.tmp 93) (Operand.tmp 97) 3, type := 4, pos := "law.go:100", after := #[{ on := 22, ground := Ground.data }, { on := 26, ground := Ground.data }, { on := 18, ground := Ground.guard }], guard := some (18, false) } : Oper)) (v := ?v1x27) rfl (by kernel_rfl) (by kernel_rfl) (by kernel_rfl) (fun _ _ _ h => h) (Or.inl ⟨by rfl, ?hy1x27⟩) hHeld2 ?_
      case hy1x27 => ((intro w hSw); (try dsimp only at hSw); go_simp; try with_reducible rfl)
      try simp only [Act.put, List.setIfInBounds_toArray, List.set_cons_zero, List.set_cons_succ]
      refine wpAnyH_take (i := 28) (oi := ({ dst := some 99, op := Op.pick (Operand.tmp 89) (Operand.const (Value.bool true)) (Operand.tmp 98), type := 4, pos := "law.go:100", after := #[{ on := 18, ground := Ground.data }, { on := 27, ground := Ground.data }], guard := none } : Oper)) (v := ?v1x28) rfl (by kernel_rfl) (by kernel_rfl) (by kernel_rfl) (fun _ _ _ h => h) (Or.inl ⟨by rfl, ?hy1x28⟩) hHeld2 ?_
      case hy1x28 => ((intro w hSw); (try dsimp only at hSw); go_simp; try with_reducible rfl)
      try simp only [Act.put, List.setIfInBounds_toArray, List.set_cons_zero, List.set_cons_succ]
      refine wpAnyH_done (by kernel_rfl) ?_ _
      have BE8 := Lib.hid hHeld2.2.2.2.2.2.2.2.2.2.2
      have BF8 := Lib.hid hHeld2.1
      clear hHeld2 c0 c1 c2 c3 c4 c5 c6 HN1 HN2 HC1 HC2 HFR
      have ltBF8 := BF8.out.lt
      obtain ⟨c0, c1, c2, c3, c4, c5, c6⟩ := BF8.out.cells
      go_wp2
      go_loopg [19] f.mts.length (fun g iv wx => ∃ k : Nat, iv = .int .i64 k ∧ k + g = f.mts.length ∧ FBox w.heap.size Ap cp Ai ci Af cf Am cm f wx ∧ Below w.heap.size w wx)
      case atStart => exact ⟨0, rfl, by omega, BF8.out, BE8.out⟩
      case round =>
        obtain ⟨k, rfl, hkg, hbf, hbe⟩ := hrel
        have BF9 := Lib.hid hbf
        have BE9 := Lib.hid hbe
        have lt9 := hbf.lt
        clear c0 c1 c2 c3 c4 c5 c6
        obtain ⟨c0, c1, c2, c3, c4, c5, c6⟩ := hbf.cells
        have hII := HI.out.keep (w' := wr) (fun p hp => BE9.out.cell (p := p) (by omega))
        clear hbf hbe
        by_cases hk : k < f.mts.length
        · have hgg : gk - 1 < gk := by omega
          obtain ⟨x, hx⟩ : ∃ x, f.mts[k]? = some x := ⟨_, List.getElem?_eq_getElem hk⟩
          obtain ⟨p0, o0, A2, c2', rfl, hbb, hrow, x0, xk1, xk2, x3, x4, x5, x6⟩ := hII.mts.at_ hx
          have FL9 := Lib.hid hII.at_
          have HSELF := Lib.hid (fun r hr => find_self HFINE.out hx (r := r) hr)
          have HM1 := Lib.hid (fun V W hW hWB => HN.out V W hW hWB x.nm)
          have HM2 := Lib.hid (fun V W hW hWB => HN.out V W hW hWB x.ds)
          generalize textP f.pool x.nm = t3 at *
          generalize textP f.pool x.ds = t4 at *
          generalize tagged f.pool x.nm 1 = b3 at *
          generalize tagged f.pool x.ds 1 = b4 at *
          have hwk : IntKind.i64.wrap (k : Int) = k := IntWalk.i64_in _ (by omega)
          clear hx hrow hII x0 x3 x4 x5 x6
          go_wp2
          have FLd := FL9.out.drew
          have BEd := BE9.out
          have BFd := BF9.out
          have hsz : w.heap.size + 1 ≤ wr.heap.size := by omega
          go_region_held3 (fun w' => w'.cell? ⟨w.heap.size, 0, none⟩ = some (.slice Ap f.pool.length cp) ∧ w'.cell? ⟨w.heap.size, 1, none⟩ = some (.int .i64 f.fl) ∧ w'.cell? ⟨w.heap.size, 2, none⟩ = some (.int .i64 f.this) ∧ w'.cell? ⟨w.heap.size, 3, none⟩ = some (.int .i64 f.super) ∧ w'.cell? ⟨w.heap.size, 4, none⟩ = some (.slice Ai f.ifs.length ci) ∧ w'.cell? ⟨w.heap.size, 5, none⟩ = some (.slice Af f.fds.length cf) ∧ w'.cell? ⟨w.heap.size, 6, none⟩ = some (.slice (some ⟨p0, o0, none⟩) f.mts.length cm) ∧ w'.cell? ⟨p0, o0 + k * 7 + 1, none⟩ = some (.int .i64 x.nm) ∧ w'.cell? ⟨p0, o0 + k * 7 + 2, none⟩ = some (.int .i64 x.ds) ∧ FileAt B w' (.agg #[.slice Ap f.pool.length cp, .int .i64 f.fl, .int .i64 f.this, .int .i64 f.super, .slice Ai f.ifs.length ci, .slice Af f.fds.length cf, .slice (some ⟨p0, o0, none⟩) f.mts.length cm]) f ∧ w.heap.size + 1 ≤ w'.heap.size ∧ Below w.heap.size w w' ∧ FBox w.heap.size Ap cp Ai ci Af cf (some ⟨p0, o0, none⟩) cm f w')
            (first
              | exact ⟨c0, c1, c2, c3, c4, c5, c6, xk1, xk2, FLd, hsz, BEd.drew, BFd.drew⟩
              | (go_split_ands
                 refine ⟨?_, ?_, ?_, ?_, ?_, ?_, ?_, ?_, ?_, ?_, ?_, ?_, ?_⟩
                 all_goals first
                   | assumption
                   | exact keepc hb (B := w.heap.size + 1) (by omega) (by omega) (by assumption)
                   | exact FileAt.below (by assumption) hb (by omega)
                   | exact Nat.le_trans (by assumption) hb.size
                   | exact Below.link (by assumption) hb
                   | exact FBox.below (by assumption) hb (by omega)))
            ((go_at_call 16; refine (HM1.out _ _ (by first | assumption | (go_split_ands; assumption)) (by go_split_ands; omega)).mono ?_; rintro e wi ⟨rfl, hb⟩))
          clear FLd BEd BFd hsz c0 c1 c2 c3 c4 c5 c6 xk1 xk2
          go_split_ands
          go_wp2
          go_region_held3 (fun w' => w'.cell? ⟨w.heap.size, 0, none⟩ = some (.slice Ap f.pool.length cp) ∧ w'.cell? ⟨w.heap.size, 1, none⟩ = some (.int .i64 f.fl) ∧ w'.cell? ⟨w.heap.size, 2, none⟩ = some (.int .i64 f.this) ∧ w'.cell? ⟨w.heap.size, 3, none⟩ = some (.int .i64 f.super) ∧ w'.cell? ⟨w.heap.size, 4, none⟩ = some (.slice Ai f.ifs.length ci) ∧ w'.cell? ⟨w.heap.size, 5, none⟩ = some (.slice Af f.fds.length cf) ∧ w'.cell? ⟨w.heap.size, 6, none⟩ = some (.slice (some ⟨p0, o0, none⟩) f.mts.length cm) ∧ w'.cell? ⟨p0, o0 + k * 7 + 1, none⟩ = some (.int .i64 x.nm) ∧ w'.cell? ⟨p0, o0 + k * 7 + 2, none⟩ = some (.int .i64 x.ds) ∧ FileAt B w' (.agg #[.slice Ap f.pool.length cp, .int .i64 f.fl, .int .i64 f.this, .int .i64 f.super, .slice Ai f.ifs.length ci, .slice Af f.fds.length cf, .slice (some ⟨p0, o0, none⟩) f.mts.length cm]) f ∧ w.heap.size + 1 ≤ w'.heap.size ∧ Below w.heap.size w w' ∧ FBox w.heap.size Ap cp Ai ci Af cf (some ⟨p0, o0, none⟩) cm f w')
            (first
              | exact ⟨by assumption, by assumption, by assumption, by assumption, by assumption, by assumption, by assumption, by assumption, by assumption, FileAt.drew (by assumption), by assumption, Below.drew (by assumption), FBox.drew (by assumption)⟩
              | (go_split_ands
                 refine ⟨?_, ?_, ?_, ?_, ?_, ?_, ?_, ?_, ?_, ?_, ?_, ?_, ?_⟩
                 all_goals first
                   | assumption
                   | exact keepc hb (B := w.heap.size + 1) (by omega) (by omega) (by assumption)
                   | exact FileAt.below (by assumption) hb (by omega)
                   | exact Nat.le_trans (by assumption) hb.size
                   | exact Below.link (by assumption) hb
                   | exact FBox.below (by assumption) hb (by omega)))
            ((go_at_call 16; refine (HM2.out _ _ (by first | assumption | (go_split_ands; assumption)) (by go_split_ands; omega)).mono ?_; rintro e wi ⟨rfl, hb⟩))
          go_split_ands
          go_wp2_with fail
          refine (HFI.out _ _ (by assumption) (by omega) t3 t4).mono ?_
          rintro e w9 ⟨r, rfl, hr, hb⟩
          obtain rfl := HSELF.out r hr
          have BEX := Lib.hid (Below.link (show Below w.heap.size w _ by assumption) hb)
          have BFX := Lib.hid (FBox.below (show FBox w.heap.size Ap cp Ai ci Af cf (some ⟨p0, o0, none⟩) cm f _ by assumption) hb (by omega))
          clear hb hr
          go_wp2
          go_roundg (gk - 1)
          case measure => exact hgg
          case rel => exact ⟨k + 1, by go_num, by omega, BFX.out, BEX.out⟩
        · clear hII
          go_wp2
          go_ret
          exact ⟨rfl, BE9.out⟩
end Go.Proofs.Ytcgloepfnnfioaa
namespace Go.Proofs.Ytcgloepfnnfioaa.fileFinds
open Go.ChangeShapes Go.WideShapes Go.ChangeAt Go.RowKit
open Go.ChangeMaps (open_string shut_string)

set_option maxRecDepth 100000 in
theorem lifted (os : Os) (started : os.Started) (H : Type) (enc : TypeId × Value → H) :
    ReturnsInHanded {} Try.checked os 4 .any (Rows.fileFindsSpec.pre6 enc Try.prog Try.f4 Rows.fileFindsRow.domain false) (Rows.fileFindsSpec.post enc Try.prog Try.f4 false true false false) := by
  refine returnsInHanded_of_change_sized (C := Try.checked) own started (by kernel_rfl) Try.func4
    (ChangeSpec.witness6 (enc := enc) (C := Try.checked) false ⟨#[], #[.agg #[.slice none 0 0, .int .i64 0, .int .i64 0, .int .i64 0, .slice none 0 0, .slice none 0 0, .slice none 0 0], .int .i64 0, .string ByteArray.empty, .string ByteArray.empty], []⟩ 8 (by kernel_rfl) (by kernel_rfl) (by kernel_rfl) (by kernel_rfl)) ?_
  intro W base args ds gs before hval0 hW hcnd hsz0 _
  have hsz : (DataW.weightsEach Try.prog (Try.f4.params.toList ++ Rows.fileFindsSpec.plain.varTypes Try.prog) (ds ++ gs)).all (· ≤ reachBytes) = true := hsz0
  clear hsz0
  have hval : ∀ (j : Nat) t v, Try.f4.params[j]? = some t → args[j]? = some v → Value.okWide Try.prog W .any base t v := hval0
  have hW' := hW
  obtain ⟨p, q, hA0, hV, rfl, hfz, hnd⟩ := hW
  have hA : DataW.TrodAll enc Try.prog W 0 (fun _ => true) true Try.f4.params.toList args.toList ds p := hA0
  rw [Try.params4] at hA hval hsz
  obtain ⟨v0, vs0, d0, ds0, p0, q0, hargs, rfl, rfl, h0, r0⟩ := trodAll_cons hA
  obtain ⟨v1, vs1, d1, ds1, p1, q1, rfl, rfl, rfl, h1, r1⟩ := trodAll_cons r0
  obtain ⟨v2, vs2, d2, ds2, p2, q2, rfl, rfl, rfl, h2, r2⟩ := trodAll_cons r1
  obtain ⟨v3, vs3, d3, ds3, p3, q3, rfl, rfl, rfl, h3, r3⟩ := trodAll_cons r2
  obtain ⟨rfl, rfl, rfl⟩ := trodAll_nil r3
  obtain rfl : args = #[v0, v1, v2, v3] := by cases args; simp_all
  obtain ⟨rfl, rfl⟩ := trodVars_none hV
  obtain ⟨a1, rfl, rfl, rfl, w1⟩ := open_int Try.underlying3 (hval 1 3 v1 rfl rfl) h1
  obtain ⟨a2, rfl, rfl, rfl, w2⟩ := open_string Try.underlying9 (hval 2 9 v2 rfl rfl) h2
  obtain ⟨a3, rfl, rfl, rfl, w3⟩ := open_string Try.underlying9 (hval 3 9 v3 rfl rfl) h3
  have k0 := h0
  have lt0 : ∀ x ∈ p0, x.block < W.heap.size := by obtain ⟨m, hm⟩ := k0; exact DataW.trod_lt m _ _ _ hm
  obtain ⟨f, hf, hf1, hf2, hf3⟩ := open_file (hval 0 26 v0 rfl rfl) h0 (fun k hk => of_decide_eq_true (List.all_eq_true.1 hsz _ (DataW.weights_mem_each (j := 0) rfl rfl k hk)))
  clear hA0 hval0
  refine (finds_walk f v0 W hf (Nat.le_refl _) ⟨hf1, hf2, hf3⟩ a1 a2 a3).mono fun e W' ⟨he, bel⟩ => ?_
  subst he
  exact ⟨_, rfl, _, _, _, [], _, [], hW', trodAll_mk1 (shut_bool Try.underlying4 _), (trodAll_cons_mk (Below.trod laidOut (by kernel_rfl) (of_decide_eq_true (by kernel_rfl)) k0 bel lt0) (trodAll_cons_mk (shut_int Try.underlying3 w1) (trodAll_cons_mk (shut_string Try.underlying9 w2) (trodAll_cons_mk (shut_string Try.underlying9 w3) trodAll_mk0)))), rfl, bel.frame _, fun h => by cases h⟩

theorem over : Rows.fileFindsRow.holds Try.pinned (OpenSpec.ofChange Rows.fileFindsSpec) :=
  OpenClaim.holds_of_wide 4 Try.f4 rfl rfl rfl rfl rfl rfl rfl ⟨rfl, rfl, rfl, rfl, rfl⟩ rfl rfl rfl rfl rfl (by kernel_rfl) Try.func4 (by kernel_rfl)
    (of_decide_eq_true (by kernel_rfl)) (by unfold Func.isWrapper; first | (rw [if_pos (by decide +kernel)]; kernel_rfl) | (rw [if_neg (by decide +kernel)]; exact ⟨rfl, rfl⟩))
    (fun os started H enc _ => lifted os started H enc)

theorem proved : Rows.FileFindsSaid := over
end Go.Proofs.Ytcgloepfnnfioaa.fileFinds
