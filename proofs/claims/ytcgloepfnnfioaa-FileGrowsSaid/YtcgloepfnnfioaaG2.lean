/-
  WALK of pick: a place below n.
-/
import Derived.Test.YtcgloepfnnfioaaG1
set_option linter.unusedVariables false
set_option linter.unusedSimpArgs false
namespace Go.Proofs.Ytcgloepfnnfioaa
open Go.RowKit

set_option maxRecDepth 1000000 in
set_option maxHeartbeats 1600000 in
theorem pick_any (c n : Int) (hc1 : -9223372036854775808 ≤ c) (hc2 : c ≤ 9223372036854775807) (hn : 0 < n) (hn2 : n ≤ 1000000) (w : World) :
    Calls Try.prog 24 #[.int .i64 c, .int .i64 n] w fun e w' => ∃ r : Int, e = .returned (.int .i64 r) ∧ 0 ≤ r ∧ r < n ∧ Below w.heap.size w w' := by
  have HBE := Lib.hid (Below.refl w.heap.size w)
  have hne : n ≠ 0 := by omega
  by_cases h : c < 0
  · have hw1 : IntKind.i64.wrap (c + 1) = c + 1 := IntWalk.i64_in _ (by omega)
    have hw2 : IntKind.i64.wrap (-(c + 1)) = -(c + 1) := IntWalk.i64_in _ (by omega)
    go_enter Try.func24, Try.ntmps24
    go_wp2
    go_ret
    have e1 : -(c + 1).tmod n = (-(c + 1)).tmod n := (Int.neg_tmod _ _).symm
    exact ⟨_, rfl, by rw [e1]; exact Int.tmod_nonneg _ (by omega), by rw [e1]; exact Int.tmod_lt_of_pos _ hn, HBE.out⟩
  · go_enter Try.func24, Try.ntmps24
    go_wp2
    go_ret
    exact ⟨_, rfl, Int.emod_nonneg _ hne, Int.emod_lt_of_pos _ hn, HBE.out⟩
/-- A file with an own row for its pool is the file with that row's constants. -/
theorem FileAt.own_pool {B base : Nat} {w : World} {f : Fl} {Ap Ai Af Am : Option Addr} {cp ci cf cm : Nat} (h : FileIs B w Ap cp Ai ci Af cf Am cm f) (hB : B ≤ w.heap.size) {A : Option Addr} {c n : Nat} {cs : List Cn}
    (hown : w.ownsRow base 47 6 (.slice A n c) n (cs.flatMap ccells)) (hn : n = cs.length) (hm : n ≤ maxLen) (hc : n ≤ c) :
    FileAt w.heap.size w (.agg #[.slice A cs.length c, .int .i64 f.fl, .int .i64 f.this, .int .i64 f.super, .slice Ai f.ifs.length ci, .slice Af f.fds.length cf, .slice Am f.mts.length cm]) { f with pool := cs } := by
  subst hn
  refine ⟨A, c, Ai, ci, Af, cf, Am, cm, rfl, ?_, (h.more hB).ifs, (h.more hB).fds, (h.more hB).mts⟩
  exact ⟨A, c, rfl, hc, hm, Reads.of_own hown⟩
theorem intC_cells (cs : List Cn) (n : Int) : (cs ++ [intC n]).flatMap ccells = cs.flatMap ccells ++ [.int .i64 2, .string ⟨#[]⟩, .int .i64 n, .int .i64 0, .int .i64 0, .int .i64 0] := by
  rw [List.flatMap_append]; rfl
/-- The cells of a row of constants, at its address. -/
theorem CRow.src {B : Nat} {w : World} {ad : Addr} {cap : Nat} {cs : List Cn} (h : CRow B w (.slice (some ad) cs.length cap) cs) : ∀ j u, (cs.flatMap ccells)[j]? = some u → w.cell? (ad.add j) = some u := by
  obtain ⟨A, cap', e, _, _, hl, h2⟩ := h
  injection e with e1 e2 e3
  subst e1
  intro j u hu
  have hj : j < (cs.flatMap ccells).length := (List.getElem?_eq_some_iff.1 hu).1
  have hpos : 0 < cs.length := by
    rcases Nat.eq_zero_or_pos cs.length with h0 | h0
    · rw [hl, h0] at hj; omega
    · exact h0
  obtain ⟨b, o, e, _, hc⟩ := h2 hpos
  injection e with e
  subst e
  rw [plain_add]
  exact hc j u hu
theorem ccells_one (cs : List Cn) : ∀ u ∈ cs.flatMap ccells, u.oneCell' = true := by
  intro u hu
  obtain ⟨c, _, hu⟩ := List.mem_flatMap.1 hu
  unfold ccells at hu
  simp only [List.mem_cons, List.not_mem_nil, or_false] at hu
  rcases hu with rfl | rfl | rfl | rfl | rfl | rfl <;> rfl
theorem CRow.none_nil {B : Nat} {w : World} {cap : Nat} {cs : List Cn} (h : CRow B w (.slice none cs.length cap) cs) : cs = [] := by
  obtain ⟨A, cap', e, _, _, hl, h2⟩ := h
  injection e with e1 e2 e3
  subst e1
  rcases Nat.eq_zero_or_pos cs.length with h0 | h0
  · exact List.eq_nil_of_length_eq_zero h0
  · obtain ⟨b, o, e, _⟩ := h2 h0
    cases e
theorem own_block_ge {w : World} {base : Nat} {e : TypeId} {size : Nat} {v : Value} {n : Nat} {xs : List Value} (h : w.ownsRow base e size v n xs) : ∀ k, v.ownBlock = some k → base ≤ k := by
  intro k hk
  rcases h.2 with ⟨rfl, _⟩ | ⟨g, cap, cur, rfl, hb, _⟩
  · cases hk
  · injection hk with hk
    subst hk
    exact hb
end Go.Proofs.Ytcgloepfnnfioaa
