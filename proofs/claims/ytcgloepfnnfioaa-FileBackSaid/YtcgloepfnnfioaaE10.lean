/-
  WALKS of slices.IndexFunc and slices.ContainsFunc over the members ahead.
-/
import Derived.Test.YtcgloepfnnfioaaE9
set_option linter.unusedVariables false
set_option linter.unusedSimpArgs false
namespace Go.Proofs.Ytcgloepfnnfioaa
open Go.RowKit

theorem any_next {α : Type} {g : α → Bool} {l : List α} {k : Nat} {x : α} (hx : l[k]? = some x) (h : (l.take k).any g = false) : (l.take (k + 1)).any g = g x := by
  obtain ⟨hk, rfl⟩ := List.getElem?_eq_some_iff.1 hx
  rw [List.take_succ_eq_append_getElem hk, List.any_append, h]
  simp
theorem any_later {α : Type} {g : α → Bool} {l : List α} {j k : Nat} {x : α} (hx : l[j]? = some x) (hj : j < k) (h : g x = true) : (l.take k).any g = true := by
  rw [List.any_eq_true]
  refine ⟨x, ?_, h⟩
  obtain ⟨hl, rfl⟩ := List.getElem?_eq_some_iff.1 hx
  rw [List.mem_take_iff_getElem]
  exact ⟨j, by omega, rfl⟩
set_option maxRecDepth 1000000 in
set_option maxHeartbeats 6400000 in
theorem IndexN {B F S Lb I : Nat} {Ap Ai Af Am : Option Addr} {cp ci cf cm : Nat} {f : Fl} {b o cap : Nat} {ms : List Mb} {k : Nat} (w : World) (h : MEnv B 40 F S Lb I Ap cp Ai ci Af cf Am cm f (some ⟨b, o, none⟩) cap ms k w) (y : Mb) (hy : ms[k]? = some y) :
    Calls Try.prog 104 #[.slice (some ⟨b, o, none⟩) k cap, .func (.func 78) #[] #[.pointer (some ⟨S, 0, none⟩), .pointer (some ⟨F, 0, none⟩), .pointer (some ⟨Lb, 0, none⟩), .pointer (some ⟨I, 0, none⟩)]] w fun e w' => ∃ r : Int, e = .returned (.int .i64 r) ∧ (((ms.take k).any (fun d => sameN f.pool d y) = true ∧ 0 ≤ r) ∨ ((ms.take k).any (fun d => sameN f.pool d y) = false ∧ r = -1)) ∧ Below w.heap.size w w' := by
  have HC := Lib.hid (fun W (hW : MEnv B 40 F S Lb I Ap cp Ai ci Af cf Am cm f (some ⟨b, o, none⟩) cap ms k W) m Aa ca => closeN W hW y hy m Aa ca)
  have HH := Lib.hid h
  have hk : k < ms.length := (List.getElem?_eq_some_iff.1 hy).1
  have hmax : ms.length ≤ 9223372036854775807 := by
    obtain ⟨_, _, _, _, _, _, _, hm, _⟩ := h.rows
    unfold maxLen at hm
    exact hm
  clear h hy
  go_enter Try.func104, Try.ntmps104
  go_wp2
  go_loopg [8] k (fun g iv wx => ∃ j : Nat, iv = .int .i64 j ∧ j + g = k ∧ (ms.take j).any (fun d => sameN f.pool d y) = false ∧ MEnv B 40 F S Lb I Ap cp Ai ci Af cf Am cm f (some ⟨b, o, none⟩) cap ms k wx ∧ Below w.heap.size w wx)
  case atStart => exact ⟨0, rfl, by omega, by simp, HH.out, Below.refl _ _⟩
  case round =>
    obtain ⟨j, rfl, hjg, hany, henv, hbel⟩ := hrel
    have HANY := Lib.hid hany
    have HENV := Lib.hid henv
    have HBEL := Lib.hid hbel
    by_cases hj : j < k
    · have hgg : gk - 1 < gk := by omega
      have hjl : j < ms.length := by omega
      obtain ⟨x, hx⟩ : ∃ x, ms[j]? = some x := ⟨_, List.getElem?_eq_getElem hjl⟩
      obtain ⟨b', o', A', c', hbo, hb, hrow, y0, y1, y2, y3, y4, y5, y6⟩ := henv.rows.at_ hx
      injection hbo with hbo
      injection hbo with hbo1 hbo2
      subst hbo1 hbo2
      have HNX := Lib.hid (any_next hx HANY.out)
      have HLT := Lib.hid (fun h => any_later (g := fun d => sameN f.pool d y) hx hj h)
      have HCX := Lib.hid (HC.out _ HENV.out x A' c')
      clear hany henv hbel hrow hx
      cases hsm : sameN f.pool x y with
      | true =>
        rw [hsm] at HCX
        have HT := Lib.hid (HLT.out hsm)
        clear hsm
        go_wp2_with fail
        refine HCX.out.mono ?_
        rintro e w1 ⟨rfl, hb⟩
        have HB := Lib.hid (Below.link HBEL.out hb)
        clear hb y0 y1 y2 y3 y4 y5 y6
        go_wp2
        go_ret
        exact ⟨_, rfl, .inl ⟨HT.out, by omega⟩, HB.out⟩
      | false =>
        rw [hsm] at HCX
        have HF := Lib.hid (HNX.out.trans hsm)
        clear hsm
        go_wp2_with fail
        refine HCX.out.mono ?_
        rintro e w1 ⟨rfl, hb⟩
        have HB := Lib.hid (Below.link HBEL.out hb)
        have HE1 := Lib.hid (HENV.out.below hb (Nat.le_refl _))
        clear hb y0 y1 y2 y3 y4 y5 y6
        go_wp2
        go_roundg (gk - 1)
        case measure => exact hgg
        case rel => exact ⟨j + 1, by go_num, by omega, HF.out, HE1.out, HB.out⟩
    · obtain rfl : j = k := by omega
      clear hany henv hbel
      go_wp2
      go_ret
      exact ⟨_, rfl, .inr ⟨HANY.out, rfl⟩, HBEL.out⟩
set_option maxRecDepth 1000000 in
set_option maxHeartbeats 6400000 in
theorem ContainsN {B F S Lb I : Nat} {Ap Ai Af Am : Option Addr} {cp ci cf cm : Nat} {f : Fl} {b o cap : Nat} {ms : List Mb} {k : Nat} (w : World) (h : MEnv B 40 F S Lb I Ap cp Ai ci Af cf Am cm f (some ⟨b, o, none⟩) cap ms k w) (y : Mb) (hy : ms[k]? = some y) :
    Calls Try.prog 77 #[.slice (some ⟨b, o, none⟩) k cap, .func (.func 78) #[] #[.pointer (some ⟨S, 0, none⟩), .pointer (some ⟨F, 0, none⟩), .pointer (some ⟨Lb, 0, none⟩), .pointer (some ⟨I, 0, none⟩)]] w fun e w' => e = .returned (.bool ((ms.take k).any (fun d => sameN f.pool d y))) ∧ Below w.heap.size w w' := by
  have HI := Lib.hid (IndexN w h y hy)
  clear h
  generalize (ms.take k).any (fun d => sameN f.pool d y) = R at *
  go_enter Try.func77, Try.ntmps77
  go_wp2_with fail
  refine HI.out.mono ?_
  rintro e w1 ⟨r, rfl, hr, hb⟩
  have HB := Lib.hid hb
  clear hb
  rcases hr with ⟨rfl, hr⟩ | ⟨rfl, rfl⟩
  all_goals
    go_wp2
    go_ret
    exact ⟨ret_b (by first | rfl | simp [*]), HB.out⟩
set_option maxRecDepth 1000000 in
set_option maxHeartbeats 6400000 in
theorem IndexM {B F S Lb I : Nat} {Ap Ai Af Am : Option Addr} {cp ci cf cm : Nat} {f : Fl} {b o cap : Nat} {ms : List Mb} {k : Nat} (w : World) (h : MEnv B 43 F S Lb I Ap cp Ai ci Af cf Am cm f (some ⟨b, o, none⟩) cap ms k w) (y : Mb) (hy : ms[k]? = some y) :
    Calls Try.prog 104 #[.slice (some ⟨b, o, none⟩) k cap, .func (.func 78) #[] #[.pointer (some ⟨S, 0, none⟩), .pointer (some ⟨F, 0, none⟩), .pointer (some ⟨Lb, 0, none⟩), .pointer (some ⟨I, 0, none⟩)]] w fun e w' => ∃ r : Int, e = .returned (.int .i64 r) ∧ (((ms.take k).any (fun d => sameM f.pool d y) = true ∧ 0 ≤ r) ∨ ((ms.take k).any (fun d => sameM f.pool d y) = false ∧ r = -1)) ∧ Below w.heap.size w w' := by
  have HC := Lib.hid (fun W (hW : MEnv B 43 F S Lb I Ap cp Ai ci Af cf Am cm f (some ⟨b, o, none⟩) cap ms k W) m Aa ca => closeM W hW y hy m Aa ca)
  have HH := Lib.hid h
  have hk : k < ms.length := (List.getElem?_eq_some_iff.1 hy).1
  have hmax : ms.length ≤ 9223372036854775807 := by
    obtain ⟨_, _, _, _, _, _, _, hm, _⟩ := h.rows
    unfold maxLen at hm
    exact hm
  clear h hy
  go_enter Try.func104, Try.ntmps104
  go_wp2
  go_loopg [8] k (fun g iv wx => ∃ j : Nat, iv = .int .i64 j ∧ j + g = k ∧ (ms.take j).any (fun d => sameM f.pool d y) = false ∧ MEnv B 43 F S Lb I Ap cp Ai ci Af cf Am cm f (some ⟨b, o, none⟩) cap ms k wx ∧ Below w.heap.size w wx)
  case atStart => exact ⟨0, rfl, by omega, by simp, HH.out, Below.refl _ _⟩
  case round =>
    obtain ⟨j, rfl, hjg, hany, henv, hbel⟩ := hrel
    have HANY := Lib.hid hany
    have HENV := Lib.hid henv
    have HBEL := Lib.hid hbel
    by_cases hj : j < k
    · have hgg : gk - 1 < gk := by omega
      have hjl : j < ms.length := by omega
      obtain ⟨x, hx⟩ : ∃ x, ms[j]? = some x := ⟨_, List.getElem?_eq_getElem hjl⟩
      obtain ⟨b', o', A', c', hbo, hb, hrow, y0, y1, y2, y3, y4, y5, y6⟩ := henv.rows.at_ hx
      injection hbo with hbo
      injection hbo with hbo1 hbo2
      subst hbo1 hbo2
      have HNX := Lib.hid (any_next hx HANY.out)
      have HLT := Lib.hid (fun h => any_later (g := fun d => sameM f.pool d y) hx hj h)
      have HCX := Lib.hid (HC.out _ HENV.out x A' c')
      clear hany henv hbel hrow hx
      cases hsm : sameM f.pool x y with
      | true =>
        rw [hsm] at HCX
        have HT := Lib.hid (HLT.out hsm)
        clear hsm
        go_wp2_with fail
        refine HCX.out.mono ?_
        rintro e w1 ⟨rfl, hb⟩
        have HB := Lib.hid (Below.link HBEL.out hb)
        clear hb y0 y1 y2 y3 y4 y5 y6
        go_wp2
        go_ret
        exact ⟨_, rfl, .inl ⟨HT.out, by omega⟩, HB.out⟩
      | false =>
        rw [hsm] at HCX
        have HF := Lib.hid (HNX.out.trans hsm)
        clear hsm
        go_wp2_with fail
        refine HCX.out.mono ?_
        rintro e w1 ⟨rfl, hb⟩
        have HB := Lib.hid (Below.link HBEL.out hb)
        have HE1 := Lib.hid (HENV.out.below hb (Nat.le_refl _))
        clear hb y0 y1 y2 y3 y4 y5 y6
        go_wp2
        go_roundg (gk - 1)
        case measure => exact hgg
        case rel => exact ⟨j + 1, by go_num, by omega, HF.out, HE1.out, HB.out⟩
    · obtain rfl : j = k := by omega
      clear hany henv hbel
      go_wp2
      go_ret
      exact ⟨_, rfl, .inr ⟨HANY.out, rfl⟩, HBEL.out⟩
set_option maxRecDepth 1000000 in
set_option maxHeartbeats 6400000 in
theorem ContainsM {B F S Lb I : Nat} {Ap Ai Af Am : Option Addr} {cp ci cf cm : Nat} {f : Fl} {b o cap : Nat} {ms : List Mb} {k : Nat} (w : World) (h : MEnv B 43 F S Lb I Ap cp Ai ci Af cf Am cm f (some ⟨b, o, none⟩) cap ms k w) (y : Mb) (hy : ms[k]? = some y) :
    Calls Try.prog 77 #[.slice (some ⟨b, o, none⟩) k cap, .func (.func 78) #[] #[.pointer (some ⟨S, 0, none⟩), .pointer (some ⟨F, 0, none⟩), .pointer (some ⟨Lb, 0, none⟩), .pointer (some ⟨I, 0, none⟩)]] w fun e w' => e = .returned (.bool ((ms.take k).any (fun d => sameM f.pool d y))) ∧ Below w.heap.size w w' := by
  have HI := Lib.hid (IndexM w h y hy)
  clear h
  generalize (ms.take k).any (fun d => sameM f.pool d y) = R at *
  go_enter Try.func77, Try.ntmps77
  go_wp2_with fail
  refine HI.out.mono ?_
  rintro e w1 ⟨r, rfl, hr, hb⟩
  have HB := Lib.hid hb
  clear hb
  rcases hr with ⟨rfl, hr⟩ | ⟨rfl, rfl⟩
  all_goals
    go_wp2
    go_ret
    exact ⟨ret_b (by first | rfl | simp [*]), HB.out⟩
end Go.Proofs.Ytcgloepfnnfioaa
