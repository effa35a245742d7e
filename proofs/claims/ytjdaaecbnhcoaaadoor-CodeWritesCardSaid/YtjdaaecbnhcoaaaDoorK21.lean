/-
  WALKS: the size that the law goes through; the law CodeWrites.
-/
import Derived.Test.YtjdaaecbnhcoaaaDoorK20
import Derived.Deep.QuietTactic
set_option linter.unusedVariables false
set_option linter.unusedSimpArgs false
namespace Go.Proofs.YtjdaaecbnhcoaaaDoor
open Go.RowKit

/-- It answers something, and reads memory alone. -/
def SomeB (w : World) (e : Ending) (w' : World) : Prop := ∃ b, e = .returned (.bool b) ∧ Drawn w w'
set_option maxRecDepth 1000000 in
set_option maxHeartbeats 6400000 in
theorem small_any (B : Nat) (l : List In) (v : Value) (w : World) (hr : NRow B w v l) (hB : B ≤ w.heap.size) :
    Calls Tryd.prog 24 #[v] w (SomeB w) := by
  obtain ⟨A, cap, rfl, hc, hm⟩ := hr.form
  unfold maxLen at hm
  have HR := Lib.hid hr
  clear hr
  go_enter Tryd.func24, Tryd.ntmps24
  go_wp2
  go_loopg [3, 4] l.length (fun g u3 u4 wx => ∃ (k : Nat) (n : Int), u4 = .int .i64 k ∧ u3 = .int .i64 n ∧ k + g = l.length ∧ Drawn w wx)
  case atStart => exact ⟨0, 0, rfl, rfl, by omega, Drawn.refl _⟩
  case round =>
    obtain ⟨k, n, rfl, rfl, hkg, hd⟩ := hrel
    have HD := Lib.hid hd
    have hsz := hd.size
    clear hd
    by_cases hlt : k < l.length
    · have hgg : gk - 1 < gk := by omega
      have hx := List.getElem?_eq_getElem hlt
      generalize l[k] = x at hx
      have hrow := (HD.out.nrow HR.out).at_ hx
      obtain ⟨b, o, Ak, ck, At, ct, rfl, hbB, hki, hti, c0, c1, c2, c3, c4⟩ := hrow
      have hbw : b < wr.heap.size := by omega
      clear hx hki hti
      go_wp2
      go_quiet (fail)
      go_wp2
      go_roundg (gk - 1)
      case measure => exact hgg
      case rel => exact ⟨k + 1, _, by go_num, rfl, by omega, HD.out.step _⟩
    · have HP : ∀ b, SomeB w (.returned (.bool b)) wr := fun b => ⟨b, rfl, HD.out⟩
      have HPP := Lib.hid HP
      clear HP
      go_wp2
      go_ret
      exact HPP.out _
set_option maxRecDepth 1000000 in
set_option maxHeartbeats 6400000 in
theorem writes_walk (l : List In) (v : Value) (pc : Int) (w : World) (hN : Names w) (hr : NRow w.heap.size w v l) (hlen : l.length ≤ 1000000000000000) (hks : ∀ x ∈ l, x.keys.length ≤ 1000000000000000) :
    Calls Tryd.prog 5 #[v, .int .i64 pc] w fun e w' => e = .returned (.bool true) ∧ Below w.heap.size w w' := by
  have N0 := Lib.hid hN
  obtain ⟨A, cap, rfl, hc, hm⟩ := hr.form
  have HR := Lib.hid hr
  have HKS := Lib.hid hks
  clear hN hr hks
  go_enter Tryd.func5, Tryd.ntmps5
  go_wp2_with fail
  refine (shown_any _ N0.out).mono ?_
  rintro e w1 ⟨rfl, hb⟩
  have B1 := Lib.hid hb
  have hz1 := hb.size
  clear hb
  go_wp2_with fail
  refine (small_any _ l _ _ (HR.out.below B1.out (Nat.le_refl _)) hz1).mono ?_
  rintro e w2 ⟨sb, rfl, hd⟩
  have B2 := Lib.hid (hd.keep B1.out)
  have hz2 := B2.out.size
  clear hd
  cases sb with
  | false =>
    go_wp2
    go_ret
    exact ⟨rfl, B2.out⟩
  | true =>
    have HE1 := Lib.hid (Encode_any _ l _ w2 (HR.out.below B2.out (Nat.le_refl _)) hz2 hlen HKS.out)
    obtain ⟨es, hes⟩ : ∃ s, encS l = s := ⟨_, rfl⟩
    obtain ⟨ee, hee⟩ : ∃ e, encE l = e := ⟨_, rfl⟩
    go_wp2_with fail
    refine HE1.out.mono ?_
    unfold EncE
    rw [hes, hee]
    rintro e w3 ⟨rfl, hb3⟩
    have B3 := Lib.hid (B2.out.trans (hb3.mono hz2))
    have hz3 := B3.out.size
    have HE2 := refEncode_any _ l _ w3 (HR.out.below B3.out (Nat.le_refl _)) hz3 hlen HKS.out
    unfold EncE at HE2
    rw [hes, hee] at HE2
    have HE2 := Lib.hid HE2
    clear hes hee hb3 HE1
    go_wp2_with fail
    refine HE2.out.mono ?_
    rintro e w4 ⟨rfl, hb4⟩
    have B4 := Lib.hid (B3.out.trans (hb4.mono hz3))
    have hz4 := B4.out.size
    clear hb4 HE2
    go_wp2_with fail
    refine (Index_any _ l _ pc _ (HR.out.below B4.out (Nat.le_refl _)) hz4).mono ?_
    rintro e w5 ⟨rfl, hb⟩
    have B5 := Lib.hid (B4.out.trans (hb.mono hz4))
    have hz5 := B5.out.size
    clear hb
    go_wp2_with fail
    refine (refIndex_any _ l _ pc _ (HR.out.below B5.out (Nat.le_refl _)) hz5).mono ?_
    rintro e w6 ⟨rfl, hb⟩
    have B6 := Lib.hid (B5.out.trans (hb.mono hz5))
    clear hb
    go_wp2
    go_ret
    exact ⟨rfl, B6.out⟩
end Go.Proofs.YtjdaaecbnhcoaaaDoor
