/-
  WALKS of the document's arena: used, best.
-/
import Derived.Test.YtmgpimibnogcaaaR1
set_option linter.unusedVariables false
set_option linter.unusedSimpArgs false
namespace Go.Proofs.Ytmgpimibnogcaaa
open Go.RowKit

theorem usedL_ge {a : Nat} {Bs : List Blk} {x : Int} (h : x ∈ usedL a Bs) : (a : Int) ≤ x := by
  obtain ⟨pre, c, post, _, _, rfl⟩ := mem_usedL h
  omega
theorem wf_bound {Bs : List Blk} (h : Wf Bs) : 16 ≤ 1 + len Bs ∧ 1 + len Bs ≤ 1048576 := by
  have h1 := h.n1
  have h2 := h.n2
  rw [words_length] at h1 h2
  exact ⟨h1, h2⟩
/-- What is known of the block that a walk stands at. -/
theorem at_facts {Bs pre r : List Blk} {c : Blk} (hw : Wf Bs) (hB : Bs = pre ++ c :: r) : (words Bs)[1 + len pre]? = some c.hd ∧ 1 + len pre < 1 + len Bs ∧ 1 ≤ c.sz ∧ c.sz ≤ 1048576 ∧ 1 + len pre + c.sz ≤ 1048576 ∧ 1 + len pre + c.sz = 1 + len (pre ++ [c]) ∧ Bs = (pre ++ [c]) ++ r := by
  have h2 := (wf_bound hw).2
  subst hB
  have hat : At (pre ++ c :: r) (1 + len pre) c := ⟨pre, r, rfl, rfl⟩
  have e : c.sz = c.body.length + 1 := rfl
  rw [len_append, len_cons] at h2 ⊢
  refine ⟨hat.facts.2.2.1, by omega, by omega, by omega, by omega, by rw [len_append, len_cons, len_nil]; omega, by simp⟩
/-- The answer whether a used block begins at x. -/
def UsedAns (Bs : List Blk) (x : Int) (e : Ending) : Prop := ∃ u : Bool, e = .returned (.bool u) ∧ (u = true ↔ x ∈ usedL 1 Bs)
/-- The answer where the least block is. -/
def BestAns (n : Nat) (Bs : List Blk) (e : Ending) : Prop := ∃ best size : Nat, e = .returned (.int .i64 (best : Int)) ∧ Sel n Bs best size
set_option maxRecDepth 1000000 in
set_option maxHeartbeats 3200000 in
theorem rused_any (r rp : Nat) (Bs : List Blk) (w : World) (hw : Wf Bs) (h : RM r rp (words Bs) w) (x : Int) :
    Calls Try.prog 49 #[.pointer (some ⟨r, 0, none⟩), .int .i64 x] w fun e w' => UsedAns Bs x e ∧ w' = w := by
  have HW := Lib.hid hw
  have H := Lib.hid h
  have c0 := h.box
  rw [words_length] at c0
  obtain ⟨l1, l2⟩ := h.lt
  obtain ⟨hb1, hb2⟩ := wf_bound hw
  obtain ⟨N, hN⟩ : ∃ N, 1 + len Bs = N := ⟨_, rfl⟩
  rw [hN] at c0 hb1 hb2
  have HN := Lib.hid hN
  clear h hw hN
  go_enter Try.func49, Try.ntmps49
  go_wp2
  go_loopg [5] Bs.length (fun g kv wx => ∃ pre rest : List Blk, Bs = pre ++ rest ∧ rest.length = g ∧ kv = .int .i64 ((1 + len pre : Nat) : Int) ∧ x ∉ usedL 1 pre ∧ wx = w)
  case atStart => exact ⟨[], Bs, rfl, rfl, rfl, by simp [usedL], rfl⟩
  case round =>
    obtain ⟨pre, rest, hB, hg, rfl, hx, rfl⟩ := hrel
    have HX := Lib.hid hx
    clear hx
    cases rest with
    | nil =>
      rw [List.append_nil] at hB
      subst hB
      have hge : ¬ ((1 + len Bs : Nat) : Int) < (N : Int) := by have := HN.out; omega
      go_wp2
      go_ret
      exact ⟨⟨false, rfl, ⟨fun h => Bool.noConfusion h, fun h => absurd h HX.out⟩⟩, rfl⟩
    | cons c rr =>
      obtain ⟨f1, f2, f3, f4, f5, f6, f7⟩ := at_facts HW.out hB
      have hlt : ((1 + len pre : Nat) : Int) < (N : Int) := by have := HN.out; omega
      have hlt' : 1 + len pre < N := by have := HN.out; omega
      have hgg : rr.length < gk := by rw [← hg, List.length_cons]; omega
      have c1 := H.out.word f1
      have F6 := Lib.hid f6
      have F7 := Lib.hid f7
      have hdv := c.hd_half
      have hmd := c.hd_mod
      have HU := Lib.hid (show usedL 1 Bs = usedL 1 pre ++ ((if c.us = true then [((1 + len pre : Nat) : Int)] else []) ++ usedL (1 + len pre + c.sz) rr) by rw [hB, usedL_append, usedL])
      have HUS := Lib.hid (show usedL 1 (pre ++ [c]) = usedL 1 pre ++ (if c.us = true then [((1 + len pre : Nat) : Int)] else []) by rw [usedL_append, usedL_one])
      have hw1 : IntKind.i64.wrap (((1 + len pre : Nat) : Int) + (c.sz : Int)) = ((1 + len pre : Nat) : Int) + (c.sz : Int) := IntWalk.i64_in _ (by omega)
      clear f1 f6 f7 hB hg
      generalize hn : 1 + len pre = a at *
      clear hn
      generalize c.hd = hd at *
      by_cases hle : (a : Int) ≤ x
      · by_cases heq : (a : Int) = x
        · subst heq
          have heq2 : ((a : Int) == (a : Int)) = true := by simp
          cases hu : c.us with
          | true =>
            rw [if_pos hu] at hmd
            have HUU := Lib.hid hu
            clear hu
            go_wp2
            go_ret
            exact ⟨⟨true, rfl, ⟨fun _ => by rw [HU.out, HUU.out]; simp, fun _ => rfl⟩⟩, rfl⟩
          | false =>
            rw [if_neg (by rw [hu]; decide)] at hmd
            have HUU := Lib.hid hu
            clear hu
            go_wp2
            go_ret
            refine ⟨⟨false, rfl, ⟨fun h => Bool.noConfusion h, fun h => ?_⟩⟩, rfl⟩
            rw [HU.out, HUU.out] at h
            simp only [Bool.false_eq_true, if_false, List.nil_append, List.mem_append] at h
            rcases h with h | h
            · exact absurd h HX.out
            · have := usedL_ge h
              omega
        · have heq2 : ((a : Int) == x) = false := by rw [beq_eq_false_iff_ne]; exact heq
          have HNX := Lib.hid (show x ∉ usedL 1 (pre ++ [c]) by
            rw [HUS.out, List.mem_append]
            rintro (h | h)
            · exact HX.out h
            · split at h
              · rw [List.mem_singleton] at h
                exact heq h.symm
              · simp at h)
          have HDV := Lib.hid hdv
          go_wp2
          go_roundg rr.length
          case measure => exact hgg
          case rel => exact ⟨pre ++ [c], rr, F7.out, rfl, by first | (rw [← F6.out]; rfl) | (rw [HDV.out, ← F6.out]; rfl), HNX.out, rfl⟩
      · have hlf : ((a : Int) ≤ x) = False := eq_false hle
        have HFA := Lib.hid (show x ∉ usedL 1 Bs by
          rw [HU.out, List.mem_append, List.mem_append]
          rintro (h | h | h)
          · exact HX.out h
          · split at h
            · rw [List.mem_singleton] at h
              omega
            · simp at h
          · have := usedL_ge h
            omega)
        go_wp2
        go_ret
        exact ⟨⟨false, rfl, ⟨fun h => Bool.noConfusion h, fun h => absurd h HFA.out⟩⟩, rfl⟩
theorem Sel.word {n best size : Nat} {pre : List Blk} (h : Sel n pre best size) (hb : 0 < best) {Bs rest : List Blk} (hB : Bs = pre ++ rest) : (words Bs)[best]? = some (2 * (size : Int)) ∧ best < (words Bs).length ∧ size ≤ len Bs := by
  rcases h with ⟨rfl, _⟩ | ⟨A, c, C, rfl, h1, h2, rfl, rfl, _⟩
  · omega
  · subst hB
    have e : A ++ c :: C ++ rest = A ++ c :: (C ++ rest) := by simp
    rw [e]
    have hat : At (A ++ c :: (C ++ rest)) (1 + len A) c := ⟨A, _, rfl, rfl⟩
    obtain ⟨_, g1, g2, _⟩ := hat.facts
    refine ⟨?_, g1, by rw [len_append, len_cons]; omega⟩
    rw [g2]
    unfold Blk.hd
    rw [h1, if_neg (by decide), Int.add_zero]
set_option maxRecDepth 1000000 in
set_option maxHeartbeats 6400000 in
theorem rbest_any (r rp : Nat) (Bs : List Blk) (w : World) (hw : Wf Bs) (h : RM r rp (words Bs) w) (n : Nat) (hn : n ≤ 1048576) :
    Calls Try.prog 48 #[.pointer (some ⟨r, 0, none⟩), .int .i64 (n : Int)] w fun e w' => BestAns n Bs e ∧ ∃ d, w' = w.drewN d := by
  have HW := Lib.hid hw
  have H := Lib.hid h
  have c0 := h.box
  have hwl := words_length Bs
  rw [hwl] at c0
  obtain ⟨l1, l2⟩ := h.lt
  obtain ⟨hb1, hb2⟩ := wf_bound hw
  obtain ⟨N, hN⟩ : ∃ N, 1 + len Bs = N := ⟨_, rfl⟩
  rw [hN] at c0 hb1 hb2 hwl
  have HN := Lib.hid hN
  have HWL := Lib.hid hwl
  clear h hw hN hwl
  go_enter Try.func48, Try.ntmps48
  go_wp2
  go_loopg [5, 6] Bs.length (fun g bv kv wx => ∃ (pre rest : List Blk) (best size : Nat), Bs = pre ++ rest ∧ rest.length = g ∧ bv = .int .i64 (best : Int) ∧ kv = .int .i64 ((1 + len pre : Nat) : Int) ∧ Sel n pre best size ∧ ∃ d, wx = w.drewN d)
  case atStart => exact ⟨[], Bs, 0, 0, rfl, rfl, rfl, rfl, Sel.start _ _, 0, rfl⟩
  case round =>
    obtain ⟨pre, rest, best, size, hB, hg, rfl, rfl, hsel, d, rfl⟩ := hrel
    have HSEL := Lib.hid hsel
    clear hsel
    cases rest with
    | nil =>
      rw [List.append_nil] at hB
      subst hB
      have hge : ¬ ((1 + len Bs : Nat) : Int) < (N : Int) := by have := HN.out; omega
      go_wp2
      go_ret
      exact ⟨⟨best, size, rfl, HSEL.out⟩, d, rfl⟩
    | cons c rr =>
      obtain ⟨f1, f2, f3, f4, f5, f6, f7⟩ := at_facts HW.out hB
      have hlt : ((1 + len pre : Nat) : Int) < (N : Int) := by have := HN.out; omega
      have hlt' : 1 + len pre < N := by have := HN.out; omega
      have hgg : rr.length < gk := by rw [← hg, List.length_cons]; omega
      have c1 := H.out.word f1
      have F6 := Lib.hid f6
      have F7 := Lib.hid f7
      have hdv := c.hd_half
      have hmd := c.hd_mod
      have hw1 : IntKind.i64.wrap (((1 + len pre : Nat) : Int) + (c.sz : Int)) = ((1 + len pre : Nat) : Int) + (c.sz : Int) := IntWalk.i64_in _ (by omega)
      have hw2 : IntKind.i64.wrap ((c.sz : Int) - 1) = (c.sz : Int) - 1 := IntWalk.i64_in _ (by omega)
      have hcb : 0 < best → w.cell? ⟨rp, best, none⟩ = some (.int .i64 (2 * (size : Int))) ∧ best < N := fun hb => by
        have := HSEL.out.word hb hB
        exact ⟨H.out.word this.1, by rw [HWL.out] at this; exact this.2.1⟩
      have HCB := Lib.hid hcb
      have HNN := Lib.hid (show ∃ a, a = 1 + len pre from ⟨_, rfl⟩)
      clear f1 f6 f7 hB hg hcb
      have hhd : c.us = false → c.hd = 2 * (c.sz : Int) := fun hu => by unfold Blk.hd; rw [hu, if_neg (by decide), Int.add_zero]
      have HHD := Lib.hid hhd
      clear hhd
      generalize hn1 : 1 + len pre = a at *
      have HN1 := Lib.hid hn1
      clear hn1
      generalize c.hd = hd at *
      cases hu : c.us with
      | true =>
        rw [if_pos hu] at hmd
        have HU := Lib.hid hu
        have hmdf : (hd % 2 = 0) = False := eq_false (by omega)
        have hb1' : ((hd % 2) == 0) = false := by rw [hmd]; rfl
        have HDV := Lib.hid hdv
        clear hu
        go_wp2
        go_quiet (exact ⟨rfl, rfl⟩)
        go_wp2
        go_roundg rr.length
        case measure => exact hgg
        case rel => exact ⟨pre ++ [c], rr, best, size, F7.out, rfl, rfl, by first | (rw [← F6.out]; rfl) | (rw [HDV.out, ← F6.out]; rfl), HSEL.out.pass (fun h => by rw [HU.out] at h; exact Bool.noConfusion h.1), _, rfl⟩
      | false =>
        rw [if_neg (by rw [hu]; decide)] at hmd
        have HU := Lib.hid hu
        have HDV := Lib.hid hdv
        have hb1' : ((hd % 2) == 0) = true := by rw [hmd]; rfl
        have hhd := HHD.out hu
        clear hu
        by_cases hz : n + 1 ≤ c.sz
        · have hzi : (n : Int) ≤ (c.sz : Int) - 1 := by omega
          by_cases hb : best = 0
          · subst hb
            clear hhd
            go_wp2
            go_quiet (exact ⟨rfl, rfl⟩)
            go_wp2
            go_roundg rr.length
            case measure => exact hgg
            case rel => exact ⟨pre ++ [c], rr, a, c.sz, F7.out, rfl, rfl, by first | (rw [← F6.out]; rfl) | (rw [HDV.out, ← F6.out]; rfl), by rw [← HN1.out]; exact HSEL.out.take HU.out (by omega) (.inl rfl), _, rfl⟩
          · have hbf : ((best : Int) == 0) = false := by rw [beq_eq_false_iff_ne]; omega
            obtain ⟨cb, hbN⟩ := HCB.out (by omega)
            have hbNi : (best : Int) < (N : Int) := by omega
            by_cases hs : c.sz < size
            · have hsi : hd < 2 * (size : Int) := by omega
              clear hhd
              go_wp2
              go_quiet (exact ⟨rfl, rfl⟩)
              go_wp2
              go_roundg rr.length
              case measure => exact hgg
              case rel => exact ⟨pre ++ [c], rr, a, c.sz, F7.out, rfl, rfl, by first | (rw [← F6.out]; rfl) | (rw [HDV.out, ← F6.out]; rfl), by rw [← HN1.out]; exact HSEL.out.take HU.out (by omega) (.inr hs), _, rfl⟩
            · have hsi : (hd < 2 * (size : Int)) = False := eq_false (by omega)
              clear hhd
              go_wp2
              go_quiet (exact ⟨rfl, rfl⟩)
              go_wp2
              go_roundg rr.length
              case measure => exact hgg
              case rel => exact ⟨pre ++ [c], rr, best, size, F7.out, rfl, rfl, by first | (rw [← F6.out]; rfl) | (rw [HDV.out, ← F6.out]; rfl), HSEL.out.pass (fun h => by omega), _, rfl⟩
        · have hzi : ((n : Int) ≤ (c.sz : Int) - 1) = False := eq_false (by omega)
          clear hhd
          go_wp2
          go_quiet (exact ⟨rfl, rfl⟩)
          go_wp2
          go_roundg rr.length
          case measure => exact hgg
          case rel => exact ⟨pre ++ [c], rr, best, size, F7.out, rfl, rfl, by first | (rw [← F6.out]; rfl) | (rw [HDV.out, ← F6.out]; rfl), HSEL.out.pass (fun h => hz h.2.1), _, rfl⟩
end Go.Proofs.Ytmgpimibnogcaaa
