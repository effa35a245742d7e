/-
  WALK of the search for a method.
-/
import Derived.Test.YtcgloepfnnfioaaE11
set_option linter.unusedVariables false
set_option linter.unusedSimpArgs false
namespace Go.Proofs.Ytcgloepfnnfioaa
open Go.RowKit

/-- A member has that name and that descriptor. -/
def isM (p : List Cn) (a b : ByteArray) (m : Mb) : Bool := decide (textP p m.nm = a) && decide (textP p m.ds = b)
/-- r is the first place at which g holds; -1: it holds nowhere. -/
def FindR (g : Mb → Bool) (ms : List Mb) (r : Int) : Prop := (∃ k m, ms[k]? = some m ∧ g m = true ∧ (ms.take k).any g = false ∧ r = (k : Nat)) ∨ (ms.any g = false ∧ r = -1)
set_option maxRecDepth 1000000 in
set_option maxHeartbeats 6400000 in
theorem Find_any {B : Nat} (f : Fl) (v : Value) (w : World) (hf : FileAt B w v f) (hB : B ≤ w.heap.size) (a b : ByteArray) :
    Calls Try.prog 20 #[v, .string a, .string b] w fun e w' => ∃ r, e = .returned (.int .i64 r) ∧ FindR (isM f.pool a b) f.mts r ∧ Below w.heap.size w w' := by
  obtain ⟨hm1, hm2, hm3, hm4⟩ := hf.max
  have HT := Lib.hid (fun V W hW hWB i => textOf_any (B := B) f V W hW hWB i)
  obtain ⟨Ap, cp, Ai, ci, Af, cf, Am, cm, rfl, hi⟩ := id hf
  have HI := Lib.hid hi
  have BE0 := Lib.hid ((Below.refl w.heap.size w).alloc (Nat.le_refl _) (.cells #[.slice Ap f.pool.length cp, .int .i64 f.fl, .int .i64 f.this, .int .i64 f.super, .slice Ai f.ifs.length ci, .slice Af f.fds.length cf, .slice Am f.mts.length cm] 26))
  have BF0 := Lib.hid (FBox.new Ap cp Ai ci Af cf Am cm f w)
  clear hi hf
  go_enter Try.func20, Try.ntmps20
  go_wp2
  go_loopg [12] f.mts.length (fun g iv wx => ∃ k : Nat, iv = .int .i64 k ∧ k + g = f.mts.length ∧ (f.mts.take k).any (isM f.pool a b) = false ∧ FBox w.heap.size Ap cp Ai ci Af cf Am cm f wx ∧ Below w.heap.size w wx)
  case atStart => exact ⟨0, rfl, by omega, by simp, BF0.out, BE0.out⟩
  case round =>
    obtain ⟨k, rfl, hkg, hany, hbf, hbe⟩ := hrel
    have HANY := Lib.hid hany
    have BF1 := Lib.hid hbf
    have BE1 := Lib.hid hbe
    have lt1 := hbf.lt
    obtain ⟨c0, c1, c2, c3, c4, c5, c6⟩ := hbf.cells
    clear hbf hbe hany
    by_cases hk : k < f.mts.length
    · have hgg : gk - 1 < gk := by omega
      obtain ⟨x, hx⟩ : ∃ x, f.mts[k]? = some x := ⟨_, List.getElem?_eq_getElem hk⟩
      have hII := HI.out.keep (w' := wr) (fun p hp => BE1.out.cell (p := p) (by omega))
      obtain ⟨p, o, A2, c2', rfl, hbb, hrow, x0, x1, x2, x3, x4, x5, x6⟩ := hII.mts.at_ hx
      have FL1 := Lib.hid (hII.at_.alloc (by omega) (.cells #[.int .i64 x.fl, .int .i64 x.nm, .int .i64 x.ds, .int .i64 x.ms, .int .i64 x.ml, .string x.code, .slice A2 x.hs.length c2'] 38))
      have FL1w := Lib.hid hII.at_
      have HNX := Lib.hid (any_next hx HANY.out)
      have HIS := Lib.hid (show isM f.pool a b x = (decide (textP f.pool x.nm = a) && decide (textP f.pool x.ds = b)) from rfl)
      have HX := Lib.hid hx
      have BE2 := Lib.hid (BE1.out.alloc (by omega) (.cells #[.int .i64 x.fl, .int .i64 x.nm, .int .i64 x.ds, .int .i64 x.ms, .int .i64 x.ml, .string x.code, .slice A2 x.hs.length c2'] 38))
      have BF2 := Lib.hid (BF1.out.alloc (.cells #[.int .i64 x.fl, .int .i64 x.nm, .int .i64 x.ds, .int .i64 x.ms, .int .i64 x.ml, .string x.code, .slice A2 x.hs.length c2'] 38))
      have MB2 := Lib.hid (MBox.new x A2 c2' wr)
      clear hx hrow hII
      have HT1 := Lib.hid (fun V W hW hWB => HT.out V W hW hWB x.nm)
      have HT2 := Lib.hid (fun V W hW hWB => HT.out V W hW hWB x.ds)
      generalize textP f.pool x.nm = t1 at *
      generalize textP f.pool x.ds = t2 at *
      cases hn : decide (t1 = a) with
      | false =>
        have hs1 : (t1.toList == a.toList) = false := (str_beq _ _).trans hn
        have HF := Lib.hid (show isM f.pool a b x = false by rw [HIS.out, hn]; rfl)
        clear hn
        go_wp2_with fail
        refine (HT1.out _ _ FL1.out (by simp; omega)).mono ?_
        rintro e w2 ⟨rfl, hb⟩
        have BE3 := Lib.hid (Below.link BE2.out hb)
        have BF3 := Lib.hid (BF2.out.below hb (BF2.out.lt))
        clear hb c0 c1 c2 c3 c4 c5 c6 x0 x1 x2 x3 x4 x5 x6
        go_wp2
        go_roundg (gk - 1)
        case measure => exact hgg
        case rel => exact ⟨k + 1, by go_num, by omega, HNX.out.trans HF.out, BF3.out, BE3.out⟩
      | true =>
        have hn1 : t1 = a := of_decide_eq_true hn
        cases hd : decide (t2 = b) with
        | false =>
          have hs2 : (t2.toList == b.toList) = false := (str_beq _ _).trans hd
          have HF := Lib.hid (show isM f.pool a b x = false by rw [HIS.out, hn, hd]; rfl)
          clear hn hd
          subst hn1
          go_wp2_with fail
          refine (HT1.out _ _ FL1.out (by simp; omega)).mono ?_
          rintro e w2 ⟨rfl, hb⟩
          have BE3 := Lib.hid (Below.link BE2.out hb)
          have BF3 := Lib.hid (BF2.out.below hb (BF2.out.lt))
          have FL3 := Lib.hid (FL1.out.below hb (by simp; omega))
          have MB3 := Lib.hid (MB2.out.below hb (MB2.out.lt))
          have lt3 := MB3.out.lt
          have lt4 := BF3.out.lt
          clear hb c0 c1 c2 c3 c4 c5 c6 x0 x1 x2 x3 x4 x5 x6
          obtain ⟨c0, c1, c2, c3, c4, c5, c6⟩ := BF3.out.cells
          obtain ⟨x0, x1, x2, x3, x4, x5, x6⟩ := MB3.out.cells
          go_wp2_with fail
          refine (HT2.out _ _ FL3.out (by omega)).mono ?_
          rintro e w3 ⟨rfl, hb⟩
          have BE4 := Lib.hid (Below.link BE3.out hb)
          have BF4 := Lib.hid (BF3.out.below hb (BF3.out.lt))
          clear hb c0 c1 c2 c3 c4 c5 c6 x0 x1 x2 x3 x4 x5 x6
          go_wp2
          go_roundg (gk - 1)
          case measure => exact hgg
          case rel => exact ⟨k + 1, by go_num, by omega, HNX.out.trans HF.out, BF4.out, BE4.out⟩
        | true =>
          have hd1 : t2 = b := of_decide_eq_true hd
          have HF := Lib.hid (show isM f.pool a b x = true by rw [HIS.out, hn, hd]; rfl)
          clear hn hd
          subst hn1 hd1
          go_wp2_with fail
          refine (HT1.out _ _ FL1.out (by simp; omega)).mono ?_
          rintro e w2 ⟨rfl, hb⟩
          have BE3 := Lib.hid (Below.link BE2.out hb)
          have BF3 := Lib.hid (BF2.out.below hb (BF2.out.lt))
          have FL3 := Lib.hid (FL1.out.below hb (by simp; omega))
          have MB3 := Lib.hid (MB2.out.below hb (MB2.out.lt))
          have lt3 := MB3.out.lt
          have lt4 := BF3.out.lt
          clear hb c0 c1 c2 c3 c4 c5 c6 x0 x1 x2 x3 x4 x5 x6
          obtain ⟨c0, c1, c2, c3, c4, c5, c6⟩ := BF3.out.cells
          obtain ⟨x0, x1, x2, x3, x4, x5, x6⟩ := MB3.out.cells
          go_wp2_with fail
          refine (HT2.out _ _ FL3.out (by omega)).mono ?_
          rintro e w3 ⟨rfl, hb⟩
          have BE4 := Lib.hid (Below.link BE3.out hb)
          have BF4 := Lib.hid (BF3.out.below hb (BF3.out.lt))
          clear hb c0 c1 c2 c3 c4 c5 c6 x0 x1 x2 x3 x4 x5 x6
          go_wp2
          go_ret
          exact ⟨_, rfl, .inl ⟨k, x, HX.out, HF.out, HANY.out, rfl⟩, BE4.out⟩
    · have HA := Lib.hid (show f.mts.any (isM f.pool a b) = false by have := HANY.out; rwa [List.take_of_length_le (by omega)] at this)
      go_wp2
      go_ret
      exact ⟨_, rfl, .inr ⟨HA.out, rfl⟩, BE1.out⟩
end Go.Proofs.Ytcgloepfnnfioaa
