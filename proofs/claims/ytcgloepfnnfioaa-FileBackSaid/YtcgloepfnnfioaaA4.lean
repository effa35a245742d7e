/-
  WALKS of what is added to bytes: a method, a whole file; of the errors of all parts, of Encode and of Right.
-/
import Derived.Test.YtcgloepfnnfioaaA3
import Derived.Test.YtcgloepfnnfioaaE11
set_option linter.unusedVariables false
set_option linter.unusedSimpArgs false
namespace Go.Proofs.Ytcgloepfnnfioaa
open Go.RowKit

/-- The bytes of a method. -/
def methN (m : Mb) : List UInt8 := headN m ++ (if m.fl = 2 then [] else beN 1 m.ms ++ (beN 1 m.ml ++ (textN m.code ++ listN 1 hdlN m.hs)))
theorem methN_le (m : Mb) (h : m.code.size ≤ 100000 ∧ m.hs.length ≤ 1000) : (methN m).length ≤ 108100 := by
  unfold methN
  rw [List.length_append, headN_len]
  split
  · simp
  · have := flat_le hdlN 8 m.hs (fun h _ => by rw [hdlN_len]; omega)
    unfold textN listN
    simp only [List.length_append, beN_length]
    rw [← size_L]
    omega
set_option maxRecDepth 1000000 in
set_option maxHeartbeats 6400000 in
theorem appendMethod_any {B : Nat} (m : Mb) (A : Option Addr) (c : Nat) (hm : m.code.size ≤ 100000 ∧ m.hs.length ≤ 1000) (v : Value) (l : List UInt8) (base : Nat) (w : World) (hr : HRow B w (.slice A m.hs.length c) m.hs) (hB : B ≤ base) (hown : OwnB w base v l) (hl : l.length ≤ 350000000) (hb : base ≤ w.heap.size) :
    Calls Try.prog 55 #[v, .agg #[.int .i64 m.fl, .int .i64 m.nm, .int .i64 m.ds, .int .i64 m.ms, .int .i64 m.ml, .string m.code, .slice A m.hs.length c]] w fun e w' => ∃ v', e = .returned v' ∧ OwnB w' base v' (l ++ methN m) ∧ Kept base w w' := by
  have HM := Lib.hid (show methN m = headN m ++ (if m.fl = 2 then [] else beN 1 m.ms ++ (beN 1 m.ml ++ (textN m.code ++ listN 1 hdlN m.hs))) from rfl)
  generalize methN m = R at *
  have HO0 := Lib.hid (hown.alloc (.cells #[.int .i64 m.fl, .int .i64 m.nm, .int .i64 m.ds, .int .i64 m.ms, .int .i64 m.ml, .string m.code, .slice A m.hs.length c] 38))
  have HK0 := Lib.hid ((Kept.refl base w).alloc hb (.cells #[.int .i64 m.fl, .int .i64 m.nm, .int .i64 m.ds, .int .i64 m.ms, .int .i64 m.ml, .string m.code, .slice A m.hs.length c] 38))
  have MB0 := Lib.hid (heap_new w (.cells #[.int .i64 m.fl, .int .i64 m.nm, .int .i64 m.ds, .int .i64 m.ms, .int .i64 m.ml, .string m.code, .slice A m.hs.length c] 38))
  have HH := Lib.hid (fun v W h1 h2 h3 => appendHead_any m A c v l base W h1 h2 h3)
  have HRW := Lib.hid hr
  obtain ⟨hm1, hm2⟩ := hm
  clear hown hr
  by_cases h2 : m.fl = 2
  · have HR := Lib.hid (show R = headN m by rw [HM.out, if_pos h2]; simp)
    have g2 : (m.fl == 2) = true := by simpa using h2
    have G2 := Lib.hid g2
    clear h2 g2
    go_enter Try.func55, Try.ntmps55
    go_wp2_with fail
    refine (HH.out _ _ HO0.out (by omega) (by simp; omega)).mono ?_
    rintro e w1 ⟨v1, rfl, hown, hk⟩
    have HO1 := Lib.hid hown
    have HK1 := Lib.hid (HK0.out.trans hk)
    have MB1 := Lib.hid (hk.other _ _ _ _ (by decide) MB0.out)
    have hs1 := HK1.out.size
    have lt1 := lt_of_block MB1.out
    clear hown hk
    have m0 : w1.cell? ⟨w.heap.size, 0, none⟩ = some (.int .i64 m.fl) := cells_of MB1.out 0
    have m1 : w1.cell? ⟨w.heap.size, 1, none⟩ = some (.int .i64 m.nm) := cells_of MB1.out 1
    have m2 : w1.cell? ⟨w.heap.size, 2, none⟩ = some (.int .i64 m.ds) := cells_of MB1.out 2
    have m3 : w1.cell? ⟨w.heap.size, 3, none⟩ = some (.int .i64 m.ms) := cells_of MB1.out 3
    have m4 : w1.cell? ⟨w.heap.size, 4, none⟩ = some (.int .i64 m.ml) := cells_of MB1.out 4
    have m5 : w1.cell? ⟨w.heap.size, 5, none⟩ = some (.string m.code) := cells_of MB1.out 5
    have m6 : w1.cell? ⟨w.heap.size, 6, none⟩ = some (.slice A m.hs.length c) := cells_of MB1.out 6
    have g2 := G2.out
    go_wp2
    go_ret
    exact ⟨_, rfl, by rw [HR.out]; exact HO1.out, HK1.out⟩
  · have HR := Lib.hid (show R = headN m ++ (beN 1 m.ms ++ (beN 1 m.ml ++ (textN m.code ++ listN 1 hdlN m.hs))) by rw [HM.out, if_neg h2])
    have g2 : (m.fl == 2) = false := by simpa using h2
    clear h2
    go_enter Try.func55, Try.ntmps55
    go_wp2_with fail
    refine (HH.out _ _ HO0.out (by omega) (by simp; omega)).mono ?_
    rintro e w1 ⟨v1, rfl, hown, hk⟩
    have HO1 := Lib.hid hown
    have HK1 := Lib.hid (HK0.out.trans hk)
    have MB1 := Lib.hid (hk.other _ _ _ _ (by decide) MB0.out)
    have hs1 := HK1.out.size
    have lt1 := lt_of_block MB1.out
    clear hown hk
    have m0 : w1.cell? ⟨w.heap.size, 0, none⟩ = some (.int .i64 m.fl) := cells_of MB1.out 0
    have m1 : w1.cell? ⟨w.heap.size, 1, none⟩ = some (.int .i64 m.nm) := cells_of MB1.out 1
    have m2 : w1.cell? ⟨w.heap.size, 2, none⟩ = some (.int .i64 m.ds) := cells_of MB1.out 2
    have m3 : w1.cell? ⟨w.heap.size, 3, none⟩ = some (.int .i64 m.ms) := cells_of MB1.out 3
    have m4 : w1.cell? ⟨w.heap.size, 4, none⟩ = some (.int .i64 m.ml) := cells_of MB1.out 4
    have m5 : w1.cell? ⟨w.heap.size, 5, none⟩ = some (.string m.code) := cells_of MB1.out 5
    have m6 : w1.cell? ⟨w.heap.size, 6, none⟩ = some (.slice A m.hs.length c) := cells_of MB1.out 6
    have HN1 := Lib.hid (appendNumber_1 m.ms v1 (l ++ headN m) base w1 HO1.out (by simp only [List.length_append, headN_len, beN_length, textN]; (try rw [← size_L]); omega) (by omega))
    go_wp2_with fail
    refine (HN1.out).mono ?_
    rintro e w2 ⟨v2, rfl, hown, hk⟩
    have HO2 := Lib.hid hown
    have HK2 := Lib.hid (HK1.out.trans hk)
    have MB2 := Lib.hid (hk.other _ _ _ _ (by decide) MB1.out)
    have hs2 := HK2.out.size
    have lt2 := lt_of_block MB2.out
    clear hown hk
    clear m0 m1 m2 m3 m4 m5 m6
    have m0 : w2.cell? ⟨w.heap.size, 0, none⟩ = some (.int .i64 m.fl) := cells_of MB2.out 0
    have m1 : w2.cell? ⟨w.heap.size, 1, none⟩ = some (.int .i64 m.nm) := cells_of MB2.out 1
    have m2 : w2.cell? ⟨w.heap.size, 2, none⟩ = some (.int .i64 m.ds) := cells_of MB2.out 2
    have m3 : w2.cell? ⟨w.heap.size, 3, none⟩ = some (.int .i64 m.ms) := cells_of MB2.out 3
    have m4 : w2.cell? ⟨w.heap.size, 4, none⟩ = some (.int .i64 m.ml) := cells_of MB2.out 4
    have m5 : w2.cell? ⟨w.heap.size, 5, none⟩ = some (.string m.code) := cells_of MB2.out 5
    have m6 : w2.cell? ⟨w.heap.size, 6, none⟩ = some (.slice A m.hs.length c) := cells_of MB2.out 6
    have HN2 := Lib.hid (appendNumber_1 m.ml v2 (l ++ headN m ++ beN 1 m.ms) base w2 HO2.out (by simp only [List.length_append, headN_len, beN_length, textN]; (try rw [← size_L]); omega) (by omega))
    go_wp2_with fail
    refine (HN2.out).mono ?_
    rintro e w3 ⟨v3, rfl, hown, hk⟩
    have HO3 := Lib.hid hown
    have HK3 := Lib.hid (HK2.out.trans hk)
    have MB3 := Lib.hid (hk.other _ _ _ _ (by decide) MB2.out)
    have hs3 := HK3.out.size
    have lt3 := lt_of_block MB3.out
    clear hown hk
    clear m0 m1 m2 m3 m4 m5 m6
    have m0 : w3.cell? ⟨w.heap.size, 0, none⟩ = some (.int .i64 m.fl) := cells_of MB3.out 0
    have m1 : w3.cell? ⟨w.heap.size, 1, none⟩ = some (.int .i64 m.nm) := cells_of MB3.out 1
    have m2 : w3.cell? ⟨w.heap.size, 2, none⟩ = some (.int .i64 m.ds) := cells_of MB3.out 2
    have m3 : w3.cell? ⟨w.heap.size, 3, none⟩ = some (.int .i64 m.ms) := cells_of MB3.out 3
    have m4 : w3.cell? ⟨w.heap.size, 4, none⟩ = some (.int .i64 m.ml) := cells_of MB3.out 4
    have m5 : w3.cell? ⟨w.heap.size, 5, none⟩ = some (.string m.code) := cells_of MB3.out 5
    have m6 : w3.cell? ⟨w.heap.size, 6, none⟩ = some (.slice A m.hs.length c) := cells_of MB3.out 6
    have HN3 := Lib.hid (appendText_any m.code hm1 v3 (l ++ headN m ++ beN 1 m.ms ++ beN 1 m.ml) base w3 HO3.out (by simp only [List.length_append, headN_len, beN_length, textN]; (try rw [← size_L]); omega) (by omega))
    go_wp2_with fail
    refine (HN3.out).mono ?_
    rintro e w4 ⟨v4, rfl, hown, hk⟩
    have HO4 := Lib.hid hown
    have HK4 := Lib.hid (HK3.out.trans hk)
    have MB4 := Lib.hid (hk.other _ _ _ _ (by decide) MB3.out)
    have hs4 := HK4.out.size
    have lt4 := lt_of_block MB4.out
    clear hown hk
    clear m0 m1 m2 m3 m4 m5 m6
    have m0 : w4.cell? ⟨w.heap.size, 0, none⟩ = some (.int .i64 m.fl) := cells_of MB4.out 0
    have m1 : w4.cell? ⟨w.heap.size, 1, none⟩ = some (.int .i64 m.nm) := cells_of MB4.out 1
    have m2 : w4.cell? ⟨w.heap.size, 2, none⟩ = some (.int .i64 m.ds) := cells_of MB4.out 2
    have m3 : w4.cell? ⟨w.heap.size, 3, none⟩ = some (.int .i64 m.ms) := cells_of MB4.out 3
    have m4 : w4.cell? ⟨w.heap.size, 4, none⟩ = some (.int .i64 m.ml) := cells_of MB4.out 4
    have m5 : w4.cell? ⟨w.heap.size, 5, none⟩ = some (.string m.code) := cells_of MB4.out 5
    have m6 : w4.cell? ⟨w.heap.size, 6, none⟩ = some (.slice A m.hs.length c) := cells_of MB4.out 6
    have HN4 := Lib.hid (listHandler_any (B := B) m.hs A c v4 (l ++ headN m ++ beN 1 m.ms ++ beN 1 m.ml ++ textN m.code) base w4 (Row.keep HRW.out fun p hp => HK4.out.below.cell (p := p) (by omega)) hB hm2 HO4.out (by simp only [List.length_append, headN_len, beN_length, textN]; (try rw [← size_L]); omega) (by omega))
    go_wp2_with fail
    refine (HN4.out).mono ?_
    rintro e w5 ⟨v5, rfl, hown, hk⟩
    have HO5 := Lib.hid hown
    have HK5 := Lib.hid (HK4.out.trans hk)
    have MB5 := Lib.hid (hk.other _ _ _ _ (by decide) MB4.out)
    have hs5 := HK5.out.size
    have lt5 := lt_of_block MB5.out
    clear hown hk
    clear m0 m1 m2 m3 m4 m5 m6
    go_wp2
    go_ret
    refine ⟨_, rfl, ?_, HK5.out⟩
    have := HO5.out
    rw [HR.out]
    simp only [List.append_assoc] at this
    exact this
set_option maxRecDepth 1000000 in
set_option maxHeartbeats 6400000 in
theorem listMethod_any {B : Nat} (xs : List Mb) (hm : ∀ m ∈ xs, m.code.size ≤ 100000 ∧ m.hs.length ≤ 1000) (A : Option Addr) (cap : Nat) (v : Value) (l : List UInt8) (base : Nat) (w : World) (hx : MRow B w (.slice A xs.length cap) xs) (hB : B ≤ base) (hn : xs.length ≤ 1000) (hown : OwnB w base v l) (hl : l.length ≤ 220000000) (hb : base ≤ w.heap.size) :
    Calls Try.prog 53 #[v, .int .i64 1, .slice A xs.length cap, .func (.func 55) #[] #[]] w fun e w' => ∃ v', e = .returned v' ∧ OwnB w' base v' (l ++ listN 1 methN xs) ∧ Kept base w w' := by
  have HC := Lib.hid (appendNumber_1 (xs.length : Int) v l base w hown (by omega) hb)
  have HX := Lib.hid hx
  have HLL := Lib.hid (take_le methN 108100 1000 xs (fun m h => methN_le m (hm m h)) hn)
  clear hx hown
  go_enter Try.func53, Try.ntmps53
  go_wp2_with fail
  refine HC.out.mono ?_
  rintro e w1 ⟨v1, rfl, hown, hk⟩
  have HO1 := Lib.hid hown
  have HK1 := Lib.hid hk
  have hs1 := hk.size
  clear hown hk
  go_wp2
  go_loopg [0, 18] xs.length (fun g bv iv wx => ∃ k : Nat, iv = .int .i64 k ∧ k + g = xs.length ∧ OwnB wx base bv (l ++ beN 1 xs.length ++ (xs.take k).flatMap methN) ∧ Kept base w wx)
  case atStart => exact ⟨0, rfl, by omega, by simpa using HO1.out, HK1.out⟩
  case round =>
    obtain ⟨k, rfl, hkg, hown, hk⟩ := hrel
    have HO2 := Lib.hid hown
    have HK2 := Lib.hid hk
    have hs2 := hk.size
    clear hown hk
    by_cases hlt : k < xs.length
    · have hgg : gk - 1 < gk := by omega
      obtain ⟨x, hx⟩ : ∃ x, xs[k]? = some x := ⟨_, List.getElem?_eq_getElem hlt⟩
      obtain ⟨b, o, A2, c2, rfl, hbb, hrow, x0, x1, x2, x3, x4, x5, x6⟩ := (show MRow B wr (.slice A xs.length cap) xs from MRow.keep HX.out (fun p hp => HK2.out.below.cell (p := p) (by omega))).at_ hx
      have HNX := Lib.hid (flat_next methN hx)
      have hll : (l ++ beN 1 xs.length ++ (xs.take k).flatMap methN).length ≤ 350000000 := by
        have := HLL.out k
        rw [List.length_append, List.length_append, beN_length]
        omega
      have HO3 := Lib.hid (HO2.out.alloc (.cells #[.int .i64 x.fl, .int .i64 x.nm, .int .i64 x.ds, .int .i64 x.ms, .int .i64 x.ml, .string x.code, .slice A2 x.hs.length c2] 38))
      have HK3 := Lib.hid (HK2.out.alloc (by omega) (.cells #[.int .i64 x.fl, .int .i64 x.nm, .int .i64 x.ds, .int .i64 x.ms, .int .i64 x.ml, .string x.code, .slice A2 x.hs.length c2] 38))
      have HCC := Lib.hid (appendMethod_any (B := B) x A2 c2 (hm x (List.mem_of_getElem? hx)) _ (l ++ beN 1 xs.length ++ (xs.take k).flatMap methN) base (wr.alloc (.cells #[.int .i64 x.fl, .int .i64 x.nm, .int .i64 x.ds, .int .i64 x.ms, .int .i64 x.ml, .string x.code, .slice A2 x.hs.length c2] 38)) (Row.keep hrow fun p hp => World.cell?_alloc_lt _ _ _ (by omega)) hB HO3.out (Nat.le_trans hll (by omega)) (by simp; omega))
      clear hx hll hrow
      go_wp2_with fail
      refine HCC.out.mono ?_
      rintro e w3 ⟨v3, rfl, hown, hk⟩
      have HO4 := Lib.hid hown
      have HK4 := Lib.hid (HK3.out.trans hk)
      clear hown hk
      go_wp2
      go_roundg (gk - 1)
      case measure => exact hgg
      case rel => exact ⟨k + 1, by go_num, by omega, by rw [HNX.out, ← List.append_assoc]; exact HO4.out, HK4.out⟩
    · have HF := Lib.hid (show OwnB wr base _ (l ++ listN 1 methN xs) by
        have := HO2.out
        rw [List.take_of_length_le (by omega)] at this
        unfold listN
        rw [← List.append_assoc]
        exact this)
      go_wp2
      go_ret
      exact ⟨_, rfl, HF.out, HK2.out⟩
end Go.Proofs.Ytcgloepfnnfioaa
