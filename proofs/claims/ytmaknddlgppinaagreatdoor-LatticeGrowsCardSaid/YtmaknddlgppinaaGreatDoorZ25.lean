/-
  CUT and joined from the texts of this seat: A4 A5 A6 E0
-/
import Derived.Test.YtmaknddlgppinaaGreatDoorZ24
import Derived.Test.YtmaknddlgppinaaGreatDoorZ22
import Derived.Test.YtmaknddlgppinaaGreatDoorZ09
set_option linter.unusedVariables false
set_option linter.unusedSimpArgs false
namespace Go.Proofs.YtmaknddlgppinaaGreatDoor
open Go.RowKit
/-- The bytes of a method. -/
def methN (m : Mb) : List UInt8 := headN m ++ (if m.fl = 2 then [] else beN 1 m.ms ++ (beN 1 m.ml ++ (textN m.code ++ listN 1 hdlN m.hs)))
theorem methN_le (m : Mb) (h : m.code.size ≤ 100000 ∧ m.hs.length ≤ 1000) : (methN m).length ≤ 108100 := by
 unfold methN
 rw [List.length_append, headN_len]
 split
 ·simp
 ·have := flat_le hdlN 8 m.hs (fun h _ => by rw [hdlN_len]; omega)
  unfold textN listN
  simp only [List.length_append, beN_length]
  rw [← size_L]
  omega
set_option maxRecDepth 1000000 in
set_option maxHeartbeats 6400000 in
theorem appendMethod_any {B : Nat} (m : Mb) (A : Option Addr) (c : Nat) (hm : m.code.size ≤ 100000 ∧ m.hs.length ≤ 1000) (v : Value) (l : List UInt8) (base : Nat) (w : World) (hr : HRow B w (.slice A m.hs.length c) m.hs) (hB : B ≤ base) (hown : OwnB w base v l) (hl : l.length ≤ 350000000) (hb : base ≤ w.heap.size) :
  Calls Tryz.prog 166 #[v, .agg #[.int .i64 m.fl, .int .i64 m.nm, .int .i64 m.ds, .int .i64 m.ms, .int .i64 m.ml, .string m.code, .slice A m.hs.length c]] w fun e w' => ∃ v', e = .returned v' ∧ OwnB w' base v' (l ++ methN m) ∧ Kept base w w' := by
 have HM := Lib.hid (show methN m = headN m ++ (if m.fl = 2 then [] else beN 1 m.ms ++ (beN 1 m.ml ++ (textN m.code ++ listN 1 hdlN m.hs))) from rfl)
 generalize methN m = R at *
 have HO0 := Lib.hid (hown.alloc (.cells #[.int .i64 m.fl, .int .i64 m.nm, .int .i64 m.ds, .int .i64 m.ms, .int .i64 m.ml, .string m.code, .slice A m.hs.length c] 141))
 have HK0 := Lib.hid ((Kept.refl base w).alloc hb (.cells #[.int .i64 m.fl, .int .i64 m.nm, .int .i64 m.ds, .int .i64 m.ms, .int .i64 m.ml, .string m.code, .slice A m.hs.length c] 141))
 have MB0 := Lib.hid (heap_new w (.cells #[.int .i64 m.fl, .int .i64 m.nm, .int .i64 m.ds, .int .i64 m.ms, .int .i64 m.ml, .string m.code, .slice A m.hs.length c] 141))
 have HH := Lib.hid (fun v W h1 h2 h3 => appendHead_any m A c v l base W h1 h2 h3)
 have HRW := Lib.hid hr
 obtain ⟨hm1, hm2⟩ := hm
 clear hown hr
 by_cases h2 : m.fl = 2
 ·have HR := Lib.hid (show R = headN m by rw [HM.out, if_pos h2]; simp)
  have g2 : (m.fl == 2) = true := by simpa using h2
  have G2 := Lib.hid g2
  clear h2 g2
  go_enter Tryz.func166, Tryz.ntmps166
  go_wp2_with fail
  refine (HH.out _ _ HO0.out (by omega) (by simp; omega)).mono ?_
  rintro e w1 ⟨v1, rfl, hown, hk⟩
  have HO1 := Lib.hid hown
  have HK1 := Lib.hid (HK0.out.trans hk)
  have MB1 := Lib.hid (hk.other _ _ _ _ (by decide) MB0.out)
  have hs1 := HK1.out.size
  have lt1 := lt_of_block MB1.out
  clear hown hk
  have m0 : w1.cell? ⟨w.heap.size, 0, none⟩ = some (.int .i64 m.fl) := cells_of MB1.out 0
  have m1 : w1.cell? ⟨w.heap.size, 1, none⟩ = some (.int .i64 m.nm) := cells_of MB1.out 1
  have m2 : w1.cell? ⟨w.heap.size, 2, none⟩ = some (.int .i64 m.ds) := cells_of MB1.out 2
  have m3 : w1.cell? ⟨w.heap.size, 3, none⟩ = some (.int .i64 m.ms) := cells_of MB1.out 3
  have m4 : w1.cell? ⟨w.heap.size, 4, none⟩ = some (.int .i64 m.ml) := cells_of MB1.out 4
  have m5 : w1.cell? ⟨w.heap.size, 5, none⟩ = some (.string m.code) := cells_of MB1.out 5
  have m6 : w1.cell? ⟨w.heap.size, 6, none⟩ = some (.slice A m.hs.length c) := cells_of MB1.out 6
  have g2 := G2.out
  go_wp2
  go_ret
  exact ⟨_, rfl, by rw [HR.out]; exact HO1.out, HK1.out⟩
 ·have HR := Lib.hid (show R = headN m ++ (beN 1 m.ms ++ (beN 1 m.ml ++ (textN m.code ++ listN 1 hdlN m.hs))) by rw [HM.out, if_neg h2])
  have g2 : (m.fl == 2) = false := by simpa using h2
  clear h2
  go_enter Tryz.func166, Tryz.ntmps166
  go_wp2_with fail
  refine (HH.out _ _ HO0.out (by omega) (by simp; omega)).mono ?_
  rintro e w1 ⟨v1, rfl, hown, hk⟩
  have HO1 := Lib.hid hown
  have HK1 := Lib.hid (HK0.out.trans hk)
  have MB1 := Lib.hid (hk.other _ _ _ _ (by decide) MB0.out)
  have hs1 := HK1.out.size
  have lt1 := lt_of_block MB1.out
  clear hown hk
  have m0 : w1.cell? ⟨w.heap.size, 0, none⟩ = some (.int .i64 m.fl) := cells_of MB1.out 0
  have m1 : w1.cell? ⟨w.heap.size, 1, none⟩ = some (.int .i64 m.nm) := cells_of MB1.out 1
  have m2 : w1.cell? ⟨w.heap.size, 2, none⟩ = some (.int .i64 m.ds) := cells_of MB1.out 2
  have m3 : w1.cell? ⟨w.heap.size, 3, none⟩ = some (.int .i64 m.ms) := cells_of MB1.out 3
  have m4 : w1.cell? ⟨w.heap.size, 4, none⟩ = some (.int .i64 m.ml) := cells_of MB1.out 4
  have m5 : w1.cell? ⟨w.heap.size, 5, none⟩ = some (.string m.code) := cells_of MB1.out 5
  have m6 : w1.cell? ⟨w.heap.size, 6, none⟩ = some (.slice A m.hs.length c) := cells_of MB1.out 6
  have HN1 := Lib.hid (appendNumber_1 m.ms v1 (l ++ headN m) base w1 HO1.out (by simp only [List.length_append, headN_len, beN_length, textN]; (try rw [← size_L]); omega) (by omega))
  go_wp2_with fail
  refine (HN1.out).mono ?_
  rintro e w2 ⟨v2, rfl, hown, hk⟩
  have HO2 := Lib.hid hown
  have HK2 := Lib.hid (HK1.out.trans hk)
  have MB2 := Lib.hid (hk.other _ _ _ _ (by decide) MB1.out)
  have hs2 := HK2.out.size
  have lt2 := lt_of_block MB2.out
  clear hown hk
  clear m0 m1 m2 m3 m4 m5 m6
  have m0 : w2.cell? ⟨w.heap.size, 0, none⟩ = some (.int .i64 m.fl) := cells_of MB2.out 0
  have m1 : w2.cell? ⟨w.heap.size, 1, none⟩ = some (.int .i64 m.nm) := cells_of MB2.out 1
  have m2 : w2.cell? ⟨w.heap.size, 2, none⟩ = some (.int .i64 m.ds) := cells_of MB2.out 2
  have m3 : w2.cell? ⟨w.heap.size, 3, none⟩ = some (.int .i64 m.ms) := cells_of MB2.out 3
  have m4 : w2.cell? ⟨w.heap.size, 4, none⟩ = some (.int .i64 m.ml) := cells_of MB2.out 4
  have m5 : w2.cell? ⟨w.heap.size, 5, none⟩ = some (.string m.code) := cells_of MB2.out 5
  have m6 : w2.cell? ⟨w.heap.size, 6, none⟩ = some (.slice A m.hs.length c) := cells_of MB2.out 6
  have HN2 := Lib.hid (appendNumber_1 m.ml v2 (l ++ headN m ++ beN 1 m.ms) base w2 HO2.out (by simp only [List.length_append, headN_len, beN_length, textN]; (try rw [← size_L]); omega) (by omega))
  go_wp2_with fail
  refine (HN2.out).mono ?_
  rintro e w3 ⟨v3, rfl, hown, hk⟩
  have HO3 := Lib.hid hown
  have HK3 := Lib.hid (HK2.out.trans hk)
  have MB3 := Lib.hid (hk.other _ _ _ _ (by decide) MB2.out)
  have hs3 := HK3.out.size
  have lt3 := lt_of_block MB3.out
  clear hown hk
  clear m0 m1 m2 m3 m4 m5 m6
  have m0 : w3.cell? ⟨w.heap.size, 0, none⟩ = some (.int .i64 m.fl) := cells_of MB3.out 0
  have m1 : w3.cell? ⟨w.heap.size, 1, none⟩ = some (.int .i64 m.nm) := cells_of MB3.out 1
  have m2 : w3.cell? ⟨w.heap.size, 2, none⟩ = some (.int .i64 m.ds) := cells_of MB3.out 2
  have m3 : w3.cell? ⟨w.heap.size, 3, none⟩ = some (.int .i64 m.ms) := cells_of MB3.out 3
  have m4 : w3.cell? ⟨w.heap.size, 4, none⟩ = some (.int .i64 m.ml) := cells_of MB3.out 4
  have m5 : w3.cell? ⟨w.heap.size, 5, none⟩ = some (.string m.code) := cells_of MB3.out 5
  have m6 : w3.cell? ⟨w.heap.size, 6, none⟩ = some (.slice A m.hs.length c) := cells_of MB3.out 6
  have HN3 := Lib.hid (appendText_any m.code hm1 v3 (l ++ headN m ++ beN 1 m.ms ++ beN 1 m.ml) base w3 HO3.out (by simp only [List.length_append, headN_len, beN_length, textN]; (try rw [← size_L]); omega) (by omega))
  go_wp2_with fail
  refine (HN3.out).mono ?_
  rintro e w4 ⟨v4, rfl, hown, hk⟩
  have HO4 := Lib.hid hown
  have HK4 := Lib.hid (HK3.out.trans hk)
  have MB4 := Lib.hid (hk.other _ _ _ _ (by decide) MB3.out)
  have hs4 := HK4.out.size
  have lt4 := lt_of_block MB4.out
  clear hown hk
  clear m0 m1 m2 m3 m4 m5 m6
  have m0 : w4.cell? ⟨w.heap.size, 0, none⟩ = some (.int .i64 m.fl) := cells_of MB4.out 0
  have m1 : w4.cell? ⟨w.heap.size, 1, none⟩ = some (.int .i64 m.nm) := cells_of MB4.out 1
  have m2 : w4.cell? ⟨w.heap.size, 2, none⟩ = some (.int .i64 m.ds) := cells_of MB4.out 2
  have m3 : w4.cell? ⟨w.heap.size, 3, none⟩ = some (.int .i64 m.ms) := cells_of MB4.out 3
  have m4 : w4.cell? ⟨w.heap.size, 4, none⟩ = some (.int .i64 m.ml) := cells_of MB4.out 4
  have m5 : w4.cell? ⟨w.heap.size, 5, none⟩ = some (.string m.code) := cells_of MB4.out 5
  have m6 : w4.cell? ⟨w.heap.size, 6, none⟩ = some (.slice A m.hs.length c) := cells_of MB4.out 6
  have HN4 := Lib.hid (listHandler_any (B := B) m.hs A c v4 (l ++ headN m ++ beN 1 m.ms ++ beN 1 m.ml ++ textN m.code) base w4 (Row.keep HRW.out fun p hp => HK4.out.below.cell (p := p) (by omega)) hB hm2 HO4.out (by simp only [List.length_append, headN_len, beN_length, textN]; (try rw [← size_L]); omega) (by omega))
  go_wp2_with fail
  refine (HN4.out).mono ?_
  rintro e w5 ⟨v5, rfl, hown, hk⟩
  have HO5 := Lib.hid hown
  have HK5 := Lib.hid (HK4.out.trans hk)
  have MB5 := Lib.hid (hk.other _ _ _ _ (by decide) MB4.out)
  have hs5 := HK5.out.size
  have lt5 := lt_of_block MB5.out
  clear hown hk
  clear m0 m1 m2 m3 m4 m5 m6
  go_wp2
  go_ret
  refine ⟨_, rfl, ?_, HK5.out⟩
  have := HO5.out
  rw [HR.out]
  simp only [List.append_assoc] at this
  exact this
set_option maxRecDepth 1000000 in
set_option maxHeartbeats 6400000 in
theorem listMethod_any {B : Nat} (xs : List Mb) (hm : ∀ m ∈ xs, m.code.size ≤ 100000 ∧ m.hs.length ≤ 1000) (A : Option Addr) (cap : Nat) (v : Value) (l : List UInt8) (base : Nat) (w : World) (hx : MRow B w (.slice A xs.length cap) xs) (hB : B ≤ base) (hn : xs.length ≤ 1000) (hown : OwnB w base v l) (hl : l.length ≤ 220000000) (hb : base ≤ w.heap.size) :
  Calls Tryz.prog 164 #[v, .int .i64 1, .slice A xs.length cap, .func (.func 166) #[] #[]] w fun e w' => ∃ v', e = .returned v' ∧ OwnB w' base v' (l ++ listN 1 methN xs) ∧ Kept base w w' := by
 have HC := Lib.hid (appendNumber_1 (xs.length : Int) v l base w hown (by omega) hb)
 have HX := Lib.hid hx
 have HLL := Lib.hid (take_le methN 108100 1000 xs (fun m h => methN_le m (hm m h)) hn)
 clear hx hown
 go_enter Tryz.func164, Tryz.ntmps164
 go_wp2_with fail
 refine HC.out.mono ?_
 rintro e w1 ⟨v1, rfl, hown, hk⟩
 have HO1 := Lib.hid hown
 have HK1 := Lib.hid hk
 have hs1 := hk.size
 clear hown hk
 go_wp2
 go_loopg [0, 18] xs.length (fun g bv iv wx => ∃ k : Nat, iv = .int .i64 k ∧ k + g = xs.length ∧ OwnB wx base bv (l ++ beN 1 xs.length ++ (xs.take k).flatMap methN) ∧ Kept base w wx)
 case atStart => exact ⟨0, rfl, by omega, by simpa using HO1.out, HK1.out⟩
 case round =>
  obtain ⟨k, rfl, hkg, hown, hk⟩ := hrel
  have HO2 := Lib.hid hown
  have HK2 := Lib.hid hk
  have hs2 := hk.size
  clear hown hk
  by_cases hlt : k < xs.length
  ·have hgg : gk - 1 < gk := by omega
   obtain ⟨x, hx⟩ : ∃ x, xs[k]? = some x := ⟨_, List.getElem?_eq_getElem hlt⟩
   obtain ⟨b, o, A2, c2, rfl, hbb, hrow, x0, x1, x2, x3, x4, x5, x6⟩ := (show MRow B wr (.slice A xs.length cap) xs from MRow.keep HX.out (fun p hp => HK2.out.below.cell (p := p) (by omega))).at_ hx
   have HNX := Lib.hid (flat_next methN hx)
   have hll : (l ++ beN 1 xs.length ++ (xs.take k).flatMap methN).length ≤ 350000000 := by
    have := HLL.out k
    rw [List.length_append, List.length_append, beN_length]
    omega
   have HO3 := Lib.hid (HO2.out.alloc (.cells #[.int .i64 x.fl, .int .i64 x.nm, .int .i64 x.ds, .int .i64 x.ms, .int .i64 x.ml, .string x.code, .slice A2 x.hs.length c2] 141))
   have HK3 := Lib.hid (HK2.out.alloc (by omega) (.cells #[.int .i64 x.fl, .int .i64 x.nm, .int .i64 x.ds, .int .i64 x.ms, .int .i64 x.ml, .string x.code, .slice A2 x.hs.length c2] 141))
   have HCC := Lib.hid (appendMethod_any (B := B) x A2 c2 (hm x (List.mem_of_getElem? hx)) _ (l ++ beN 1 xs.length ++ (xs.take k).flatMap methN) base (wr.alloc (.cells #[.int .i64 x.fl, .int .i64 x.nm, .int .i64 x.ds, .int .i64 x.ms, .int .i64 x.ml, .string x.code, .slice A2 x.hs.length c2] 141)) (Row.keep hrow fun p hp => World.cell?_alloc_lt _ _ _ (by omega)) hB HO3.out (Nat.le_trans hll (by omega)) (by simp; omega))
   clear hx hll hrow
   go_wp2_with fail
   refine HCC.out.mono ?_
   rintro e w3 ⟨v3, rfl, hown, hk⟩
   have HO4 := Lib.hid hown
   have HK4 := Lib.hid (HK3.out.trans hk)
   clear hown hk
   go_wp2
   go_roundg (gk - 1)
   case measure => exact hgg
   case rel => exact ⟨k + 1, by go_num, by omega, by rw [HNX.out, ← List.append_assoc]; exact HO4.out, HK4.out⟩
  ·have HF := Lib.hid (show OwnB wr base _ (l ++ listN 1 methN xs) by
    have := HO2.out
    rw [List.take_of_length_le (by omega)] at this
    unfold listN
    rw [← List.append_assoc]
    exact this)
   go_wp2
   go_ret
   exact ⟨_, rfl, HF.out, HK2.out⟩
def fieldsE (f : Fl) : Int := memsE [hdE f.pool f.fl 1 typeE, extraE] (sameN f.pool) f.fds
def methodsE (f : Fl) : Int := memsE [hdE f.pool f.fl 2 sigE, specE f.pool, bodyE f.pool] (sameM f.pool) f.mts
/-- The first error of a file, but for its length as bytes. -/
def partsE (f : Fl) : Int := if poolE f.pool = 0 then (if classE f = 0 then (if fieldsE f = 0 then methodsE f else fieldsE f) else classE f) else poolE f.pool
theorem firstErr_zero {α : Type} {g : α → Int} : ∀ {l : List α}, firstErr g l = 0 → ∀ x ∈ l, g x = 0
 | [], _, x, hx => by simp at hx
 | y :: r, h, x, hx => by
  simp only [firstErr] at h
  split at h
  ·rename_i h0
   rcases List.mem_cons.1 hx with rfl | hx
   ·exact h0
   ·exact firstErr_zero h x hx
  ·rename_i h0
   exact absurd h h0
theorem memsE_zero {parts : List (Mb → Int)} {same : Mb → Mb → Bool} {ms : List Mb} (h : memsE parts same ms = 0) : ms.length ≤ 200 ∧ ∀ m ∈ ms, ∀ g ∈ parts, g m = 0 := by
 unfold memsE at h
 split at h
 ·cases h
 ·rename_i hl
  refine ⟨by omega, fun m hm => ?_⟩
  obtain ⟨k, hk, rfl⟩ := List.getElem_of_mem hm
  have h1 := firstErr_zero h k (by simpa using hk)
  unfold memE at h1
  rw [List.getElem?_eq_getElem hk] at h1
  simp only at h1
  split at h1
  ·rename_i h2
   exact firstErr_zero h2
  ·rename_i h2
   exact absurd h1 h2
/-- What is known of a file whose parts have no error. -/
structure FineF (f : Fl) : Prop where
 pool : f.pool.length ≤ 2000
 pools : poolE f.pool = 0
 cls : classE f = 0
 fds : fieldsE f = 0
 mts : methodsE f = 0
 ifs : f.ifs.length ≤ 16
 nf : f.fds.length ≤ 200
 nm : f.mts.length ≤ 200
 code : ∀ m ∈ f.mts, m.code.size ≤ 4096 ∧ m.hs.length ≤ 32
theorem partsE_fine {f : Fl} (h : partsE f = 0) : FineF f := by
 unfold partsE at h
 split at h
 ·rename_i h1
  split at h
  ·rename_i h2
   split at h
   ·rename_i h3
    have hm := memsE_zero (show memsE _ _ _ = 0 from h)
    have hf := memsE_zero (show memsE _ _ _ = 0 from h3)
    refine ⟨?_, h1, h2, h3, h, ?_, hf.1, hm.1, fun m hmm => ?_⟩
    ·unfold poolE at h1
     split at h1
     ·cases h1
     ·omega
    ·unfold classE at h2
     repeat' split at h2
     all_goals first
      | omega
      | cases h2
    ·have hb := hm.2 m hmm (bodyE f.pool) (by simp)
     unfold bodyE at hb
     split at hb
     ·unfold extraE bareB at hb
      split at hb
      ·rename_i hx
       simp only [Bool.and_eq_true, decide_eq_true_eq] at hx
       omega
      ·cases hb
     ·repeat' split at hb
      all_goals first
       | omega
       | cases hb
   ·rename_i h3
    exact absurd h h3
  ·rename_i h2
   exact absurd h h2
 ·rename_i h1
  exact absurd h h1
/-- The bytes of a file. -/
def fileN (f : Fl) : List UInt8 :=
 [67, 82, 85, 88] ++ (listN 2 constN f.pool ++ (beN 1 f.fl ++ (linksN [f.this, f.super] ++ (listN 1 (fun i => linksN [i]) f.ifs ++ (listN 1 headN f.fds ++ listN 1 methN f.mts)))))
set_option maxRecDepth 1000000 in
set_option maxHeartbeats 6400000 in
theorem appendFile_any {B : Nat} (f : Fl) (v : Value) (w : World) (hf : FileAt B w v f) (hB : B ≤ w.heap.size) (ht : Texts f.pool) (hp : FineF f) :
  Calls Tryz.prog 135 #[.slice none 0 0, v] w fun e w' => ∃ v', e = .returned v' ∧ OwnB w' w.heap.size v' (fileN f) ∧ Below w.heap.size w w' := by
 obtain ⟨i0, hi, hz0, hz1, hz2⟩ := info_parts Tryz.info5
 have HF := Lib.hid (show fileN f = [67, 82, 85, 88] ++ (listN 2 constN f.pool ++ (beN 1 f.fl ++ (linksN [f.this, f.super] ++ (listN 1 (fun i => linksN [i]) f.ifs ++ (listN 1 headN f.fds ++ listN 1 methN f.mts))))) from rfl)
 have hpl := hp.pool
 have hil := hp.ifs
 have hfl := hp.nf
 have hml := hp.nm
 have HCD := Lib.hid (show ∀ m ∈ f.mts, m.code.size ≤ 100000 ∧ m.hs.length ≤ 1000 from fun m hm => by have := hp.code m hm; omega)
 have l1 : (listN 2 constN f.pool).length ≤ 131100000 := by
  unfold listN
  have := flat_le constN 65545 f.pool (fun c _ => constN_le c)
  rw [List.length_append, beN_length]
  omega
 have l4 : (listN 1 (fun i => linksN [i]) f.ifs).length ≤ 100 := by
  unfold listN
  have := flat_le (fun i => linksN [i]) 2 f.ifs (fun i _ => by rw [linksN_length]; simp)
  rw [List.length_append, beN_length]
  omega
 have l5 : (listN 1 headN f.fds).length ≤ 2000 := by
  unfold listN
  have := flat_le headN 5 f.fds (fun m _ => by rw [headN_len]; omega)
  rw [List.length_append, beN_length]
  omega
 generalize fileN f = R at *
 obtain ⟨Ap, cp, Ai, ci, Af, cf, Am, cm, rfl, hfi⟩ := id hf
 have HI := Lib.hid hfi
 have HK0 := Lib.hid ((Kept.refl w.heap.size w).alloc (Nat.le_refl _) (.cells #[.slice Ap f.pool.length cp, .int .i64 f.fl, .int .i64 f.this, .int .i64 f.super, .slice Ai f.ifs.length ci, .slice Af f.fds.length cf, .slice Am f.mts.length cm] 94))
 have FB0 := Lib.hid (FBox.new Ap cp Ai ci Af cf Am cm f w)
 have HO0 := Lib.hid (OwnB.nil (w.alloc (.cells #[.slice Ap f.pool.length cp, .int .i64 f.fl, .int .i64 f.this, .int .i64 f.super, .slice Ai f.ifs.length ci, .slice Af f.fds.length cf, .slice Am f.mts.length cm] 94)) w.heap.size)
 clear hfi hf hp
 go_enter Tryz.func135, Tryz.ntmps135
 go_wp2_with (at_builtin; refine Lib.wpList_append_own_string (w.alloc (.cells #[.slice Ap f.pool.length cp, .int .i64 f.fl, .int .i64 f.this, .int .i64 f.super, .slice Ai f.ifs.length ci, .slice Af f.fds.length cf, .slice Am f.mts.length cm] 94)) rfl (.tmp 5) (.const (.string ⟨#[67, 82, 85, 88]⟩)) 166 9 rfl w.heap.size 5 i0 Tryz.underlying166 Tryz.underlying9 hi hz0 hz1 hz2 _ _ _ rfl HO0.out.app ⟨#[67, 82, 85, 88]⟩ rfl ?c1 ?c2 ?c3 ?_)
 case c1 => unfold maxLen; decide
 case c2 => decide
 case c3 => simp
 intro v1 w1 hown hg _
 have HO1 := Lib.hid (show OwnB w1 w.heap.size v1 [67, 82, 85, 88] from hown)
 have hk := HO0.out.grown0 (by simp) hg
 have HK1 := Lib.hid (HK0.out.trans hk)
 have FB1 := Lib.hid (show FBox w.heap.size Ap cp Ai ci Af cf Am cm f w1 from hk.other _ _ _ _ (by decide) FB0.out)
 have hs1 := HK1.out.size
 have lt1 := FB1.out.lt
 clear hown hg hk
 obtain ⟨c0, c1, c2, c3, c4, c5, c6⟩ := FB1.out.cells
 have N2 := Lib.hid (listConst_any (B := B) f.pool ht Ap cp v1 [67, 82, 85, 88] w.heap.size w1 (Row.keep HI.out.pool fun p hp => HK1.out.below.cell (p := p) (by omega)) hB (by omega) HO1.out (by simp) (by omega))
 go_wp2_with fail
 refine (N2.out).mono ?_
 rintro e w2 ⟨v2, rfl, hown, hk⟩
 have HO2 := Lib.hid hown
 have HK2 := Lib.hid (HK1.out.trans hk)
 have FB2 := Lib.hid (show FBox w.heap.size Ap cp Ai ci Af cf Am cm f w2 from hk.other _ _ _ _ (by decide) FB1.out)
 have hs2 := HK2.out.size
 have lt2 := FB2.out.lt
 clear hown hk
 clear c0 c1 c2 c3 c4 c5 c6
 obtain ⟨c0, c1, c2, c3, c4, c5, c6⟩ := FB2.out.cells
 have N3 := Lib.hid (appendNumber_1 f.fl v2 ([67, 82, 85, 88] ++ listN 2 constN f.pool) w.heap.size w2 HO2.out (by simp only [List.length_append, List.length_cons, List.length_nil, beN_length, linksN_length]; omega) (by omega))
 go_wp2_with fail
 refine (N3.out).mono ?_
 rintro e w3 ⟨v3, rfl, hown, hk⟩
 have HO3 := Lib.hid hown
 have HK3 := Lib.hid (HK2.out.trans hk)
 have FB3 := Lib.hid (show FBox w.heap.size Ap cp Ai ci Af cf Am cm f w3 from hk.other _ _ _ _ (by decide) FB2.out)
 have hs3 := HK3.out.size
 have lt3 := FB3.out.lt
 clear hown hk
 clear c0 c1 c2 c3 c4 c5 c6
 obtain ⟨c0, c1, c2, c3, c4, c5, c6⟩ := FB3.out.cells
 have HO3' := Lib.hid (HO3.out.alloc (.cells #[.int .i64 f.this, .int .i64 f.super] 3))
 have HK3' := Lib.hid (HK3.out.alloc (by omega) (.cells #[.int .i64 f.this, .int .i64 f.super] 3))
 have FB3' := Lib.hid (FB3.out.alloc (.cells #[.int .i64 f.this, .int .i64 f.super] 3))
 have N4 := Lib.hid (appendLinks_any [f.this, f.super] (by simp) w3.heap.size v3 ([67, 82, 85, 88] ++ listN 2 constN f.pool ++ beN 1 f.fl) w.heap.size (w3.alloc (.cells #[.int .i64 f.this, .int .i64 f.super] 3)) (heap_new _ _) HO3'.out (by simp only [List.length_append, List.length_cons, List.length_nil, beN_length, linksN_length]; omega) (by simp; omega))
 go_wp2_with fail
 refine (N4.out).mono ?_
 rintro e w4 ⟨v4, rfl, hown, hk⟩
 have HO4 := Lib.hid hown
 have HK4 := Lib.hid (HK3'.out.trans hk)
 have FB4 := Lib.hid (show FBox w.heap.size Ap cp Ai ci Af cf Am cm f w4 from hk.other _ _ _ _ (by decide) FB3'.out)
 have hs4 := HK4.out.size
 have lt4 := FB4.out.lt
 clear hown hk
 clear c0 c1 c2 c3 c4 c5 c6
 obtain ⟨c0, c1, c2, c3, c4, c5, c6⟩ := FB4.out.cells
 have N5 := Lib.hid (listInt_any (B := B) f.ifs Ai ci v4 ([67, 82, 85, 88] ++ listN 2 constN f.pool ++ beN 1 f.fl ++ linksN [f.this, f.super]) w.heap.size w4 (Row.keep HI.out.ifs fun p hp => HK4.out.below.cell (p := p) (by omega)) hB (by omega) HO4.out (by simp only [List.length_append, List.length_cons, List.length_nil, beN_length, linksN_length]; omega) (by omega))
 go_wp2_with fail
 refine (N5.out).mono ?_
 rintro e w5 ⟨v5, rfl, hown, hk⟩
 have HO5 := Lib.hid hown
 have HK5 := Lib.hid (HK4.out.trans hk)
 have FB5 := Lib.hid (show FBox w.heap.size Ap cp Ai ci Af cf Am cm f w5 from hk.other _ _ _ _ (by decide) FB4.out)
 have hs5 := HK5.out.size
 have lt5 := FB5.out.lt
 clear hown hk
 clear c0 c1 c2 c3 c4 c5 c6
 obtain ⟨c0, c1, c2, c3, c4, c5, c6⟩ := FB5.out.cells
 have N6 := Lib.hid (listField_any (B := B) f.fds Af cf v5 ([67, 82, 85, 88] ++ listN 2 constN f.pool ++ beN 1 f.fl ++ linksN [f.this, f.super] ++ listN 1 (fun i => linksN [i]) f.ifs) w.heap.size w5 (HI.out.fds.keep fun p hp => HK5.out.below.cell (p := p) (by omega)) hB (by omega) HO5.out (by simp only [List.length_append, List.length_cons, List.length_nil, beN_length, linksN_length]; omega) (by omega))
 go_wp2_with fail
 refine (N6.out).mono ?_
 rintro e w6 ⟨v6, rfl, hown, hk⟩
 have HO6 := Lib.hid hown
 have HK6 := Lib.hid (HK5.out.trans hk)
 have FB6 := Lib.hid (show FBox w.heap.size Ap cp Ai ci Af cf Am cm f w6 from hk.other _ _ _ _ (by decide) FB5.out)
 have hs6 := HK6.out.size
 have lt6 := FB6.out.lt
 clear hown hk
 clear c0 c1 c2 c3 c4 c5 c6
 obtain ⟨c0, c1, c2, c3, c4, c5, c6⟩ := FB6.out.cells
 have N7 := Lib.hid (listMethod_any (B := B) f.mts HCD.out Am cm v6 ([67, 82, 85, 88] ++ listN 2 constN f.pool ++ beN 1 f.fl ++ linksN [f.this, f.super] ++ listN 1 (fun i => linksN [i]) f.ifs ++ listN 1 headN f.fds) w.heap.size w6 (HI.out.mts.keep fun p hp => HK6.out.below.cell (p := p) (by omega)) hB (by omega) HO6.out (by simp only [List.length_append, List.length_cons, List.length_nil, beN_length, linksN_length]; omega) (by omega))
 go_wp2_with fail
 refine (N7.out).mono ?_
 rintro e w7 ⟨v7, rfl, hown, hk⟩
 have HO7 := Lib.hid hown
 have HK7 := Lib.hid (HK6.out.trans hk)
 have FB7 := Lib.hid (show FBox w.heap.size Ap cp Ai ci Af cf Am cm f w7 from hk.other _ _ _ _ (by decide) FB6.out)
 have hs7 := HK7.out.size
 have lt7 := FB7.out.lt
 clear hown hk
 clear c0 c1 c2 c3 c4 c5 c6
 obtain ⟨c0, c1, c2, c3, c4, c5, c6⟩ := FB7.out.cells
 go_wp2
 go_ret
 refine ⟨_, rfl, ?_, HK7.out.below⟩
 have := HO7.out
 rw [HF.out]
 simp only [List.append_assoc] at this
 exact this
/-- What Encode answers. -/
def encT (f : Fl) : ByteArray := if partsE f = 0 ∧ (fileN f).length ≤ 65536 then mkB (fileN f) else ⟨#[]⟩
def encF (f : Fl) : Int := if partsE f = 0 then (if (fileN f).length ≤ 65536 then 0 else 2) else partsE f
set_option maxRecDepth 1000000 in
set_option maxHeartbeats 6400000 in
theorem members_none {x0 x1 x2 x3 x4 x5 x6 : Value} (A : Option Addr) (cap g pb n : Nat) (w : World) :
  Calls Tryz.prog 150 #[.agg #[x0, x1, x2, x3, x4, x5, x6], .slice A 0 cap, .func (.func g) #[] #[], .slice (some ⟨pb, 0, none⟩) n n] w fun e w' => e = .returned (.int .i64 0) ∧ Below w.heap.size w w' := by
 go_enter Tryz.func150, Tryz.ntmps150
 go_wp2
 go_step3
 go_wp2
 go_step3
 go_wp2
 go_loopg [9, 10] 0 (fun g ev iv wx => ∃ I : Nat, ev = .int .i64 0 ∧ iv = .pointer (some ⟨I, 0, none⟩) ∧ wx.cell? ⟨I, 0, none⟩ = some (.int .i64 0) ∧ wx.cell? ⟨w.heap.size + 1, 0, none⟩ = some (.slice A 0 cap) ∧ Below w.heap.size w wx)
 case atStart =>
  refine ⟨_, rfl, rfl, ?_, ?_, ((((Below.refl w.heap.size w).alloc (Nat.le_refl _) _).alloc (by simp) _).alloc (by simp; omega) _).alloc (by simp; omega) _⟩
  ·exact cells_of (hheap_at _ _ _ (by simp)) 0
  ·exact cells_of (heap_alloc_lt (heap_alloc_lt (hheap_at _ _ _ (by simp)))) 0
 case round =>
  obtain ⟨I, rfl, rfl, i0, l0, hb⟩ := hrel
  have HB := Lib.hid hb
  clear hb
  go_wp2
  try rw [Exit.noGoto_ret]
  go_ret
  exact ⟨rfl, HB.out⟩
end Go.Proofs.YtmaknddlgppinaaGreatDoor
