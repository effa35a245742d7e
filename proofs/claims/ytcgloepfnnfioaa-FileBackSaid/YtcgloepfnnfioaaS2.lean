/-
  WALK of the examples at the head of all laws of the chapter.
  WALK of the examples at the head of all laws of the chapter.
-/
import Derived.Test.YtcgloepfnnfioaaA6
set_option linter.unusedVariables false
set_option linter.unusedSimpArgs false
namespace Go.Proofs.Ytcgloepfnnfioaa
open Go.RowKit

theorem Row.of_own {w : World} {base : Nat} {e : TypeId} {size : Nat} {v : Value} {n : Nat} {xs : List Value} (h : w.ownsRow base e size v n xs) (hn : n ≤ maxLen) : Row w.heap.size size w v n xs := by
  have h0 := h
  rcases h.2 with ⟨rfl, rfl⟩ | ⟨g, cap, cur, rfl, _, _, hc, _⟩
  · exact ⟨none, 0, rfl, Nat.le_refl _, hn, Reads.of_own h0⟩
  · exact ⟨some ⟨g, 0, none⟩, cap, rfl, hc, hn, Reads.of_own h0⟩
theorem ownsRow_blk {w : World} {b n : Nat} {cs : Array Value} {e : TypeId} {size : Nat} (h : w.heap[b]? = some (.cells cs e (0, 0))) (hs : cs.size = n * size) (hn : n ≤ maxLen) : w.ownsRow b e size (.slice (some ⟨b, 0, none⟩) n n) n cs.toList :=
  ⟨by simpa using hs, .inr ⟨b, n, cs, rfl, Nat.le_refl _, h, Nat.le_refl _, hn, hs, by rw [← hs, ← Array.length_toList]; exact List.take_length⟩⟩
theorem ccells_len (cs : List Cn) : (cs.flatMap ccells).length = cs.length * 6 := by
  induction cs with
  | nil => rfl
  | cons c r ih =>
    rw [List.flatMap_cons, List.length_append, ih, List.length_cons]
    show 6 + _ = _
    omega
theorem CRow.blk {w : World} {b : Nat} {cs : List Cn} (h : w.heap[b]? = some (.cells (cs.flatMap ccells).toArray 47 (0, 0))) (hn : cs.length ≤ maxLen) : CRow w.heap.size w (.slice (some ⟨b, 0, none⟩) cs.length cs.length) cs :=
  Row.of_own (ownsRow_blk h (by rw [List.size_toArray]; exact ccells_len cs) hn) hn
theorem IRow.nil {B : Nat} {w : World} : IRow B w (.slice none 0 0) [] := Row.nil
theorem HRow.nil {B : Nat} {w : World} : HRow B w (.slice none 0 0) [] := Row.nil
theorem MRow.nil {B : Nat} {w : World} : MRow B w (.slice none 0 0) [] := ⟨[], rfl, fun i m hv h => by simp at h, Row.nil⟩
/-- The chapter's first file. -/
def smallP : List Cn := [⟨1, ⟨#[65]⟩, 0, 0, 0, 0⟩, ⟨4, ⟨#[]⟩, 0, 1, 0, 0⟩, ⟨1, ⟨#[79, 98, 106, 101, 99, 116]⟩, 0, 0, 0, 0⟩, ⟨4, ⟨#[]⟩, 0, 3, 0, 0⟩]
def smallF : Fl := ⟨smallP, 0, 2, 4, [], [], []⟩
theorem smallC : smallP.flatMap ccells = [.int .i64 1, .string ⟨#[65]⟩, .int .i64 0, .int .i64 0, .int .i64 0, .int .i64 0, .int .i64 4, .string ⟨#[]⟩, .int .i64 0, .int .i64 1, .int .i64 0, .int .i64 0,
    .int .i64 1, .string ⟨#[79, 98, 106, 101, 99, 116]⟩, .int .i64 0, .int .i64 0, .int .i64 0, .int .i64 0, .int .i64 4, .string ⟨#[]⟩, .int .i64 0, .int .i64 3, .int .i64 0, .int .i64 0] := rfl
theorem ex_small : encF smallF = 0 := by decide +kernel
theorem ex_this : encF ⟨smallP, 0, 1, 4, [], [], []⟩ = 7 := by decide +kernel
theorem ex_flags : encF ⟨smallP, 1, 2, 4, [], [], []⟩ = 10 := by decide +kernel
theorem ex_pool : encF ⟨smallP ++ [⟨4, ⟨#[]⟩, 0, 9, 0, 0⟩], 0, 2, 4, [], [], []⟩ = 7 := by decide +kernel
theorem ex_field : encF ⟨smallP, 0, 2, 4, [], [⟨0, 1, 1, 0, 0, ⟨#[]⟩, []⟩], []⟩ = 9 := by decide +kernel
theorem ex_bytes : 13 < (encT smallF).size ∧ (encT smallF).extract 0 13 = ⟨#[67, 82, 85, 88, 0, 4, 1, 0, 1, 65, 4, 0, 1]⟩ := by decide +kernel
set_option maxRecDepth 1000000 in
set_option maxHeartbeats 6400000 in
theorem small_any (w : World) :
    Calls Try.prog 25 #[] w fun e w' => ∃ b, e = .returned (.agg #[.slice (some ⟨b, 0, none⟩) 4 4, .int .i64 0, .int .i64 2, .int .i64 4, .slice none 0 0, .slice none 0 0, .slice none 0 0]) ∧ w'.heap[b]? = some (.cells (smallP.flatMap ccells).toArray 47 (0, 0)) ∧ w.heap.size ≤ b ∧ Below w.heap.size w w' := by
  rw [smallC]
  go_enter Try.func25, Try.ntmps25
  go_wp2
  refine bodyPost_ret (v := .agg #[.slice (some ⟨w.heap.size + 1, 0, none⟩) 4 4, .int .i64 0, .int .i64 2, .int .i64 4, .slice none 0 0, .slice none 0 0, .slice none 0 0]) (by simp [results, Try.results25, go_sem]) rfl ⟨w.heap.size + 1, rfl, ?_, by omega, ?_⟩
  · exact heap_new2 w _ _
  · exact ((Below.refl _ _).alloc (Nat.le_refl _) _).alloc (by simp) _
theorem Try.info47 : (Try.prog.info? 47).map (fun i => (i.zero, i.size, i.bytes)) = some (some (.agg #[.int .i64 0, .string ⟨#[]⟩, .int .i64 0, .int .i64 0, .int .i64 0, .int .i64 0]), 6, 56) := by kernel_rfl
theorem smallTexts : Texts smallP := by unfold Texts; decide +kernel
theorem poolTexts : Texts (smallP ++ [⟨4, ⟨#[]⟩, 0, 9, 0, 0⟩]) := by unfold Texts; decide +kernel
theorem fileAt_of {B : Nat} {w : World} {Ap : Option Addr} {cp : Nat} {Af : Option Addr} {cf : Nat} {p : List Cn} {fl this super : Int} {fds : List Mb} (hp : CRow B w (.slice Ap p.length cp) p) (hf : MRow B w (.slice Af fds.length cf) fds) :
    FileAt B w (.agg #[.slice Ap p.length cp, .int .i64 fl, .int .i64 this, .int .i64 super, .slice none 0 0, .slice Af fds.length cf, .slice none 0 0]) ⟨p, fl, this, super, [], fds, []⟩ :=
  ⟨Ap, cp, none, 0, Af, cf, none, 0, rfl, hp, Row.nil, hf, MRow.nil⟩
theorem Right_ex {w : World} {v : Value} {f : Fl} {e : Int} (hf : FileAt w.heap.size w v f) (ht : Texts f.pool) (he : encF f = e) : Calls Try.prog 14 #[v] w fun e' w' => e' = .returned (.int .i64 e) ∧ Below w.heap.size w w' := by
  have := Right_file f v w hf (Nat.le_refl _) ht
  rwa [he] at this
theorem own_ne {w : World} {base : Nat} {e : TypeId} {size : Nat} {v : Value} {n : Nat} {xs : List Value} (h : w.ownsRow base e size v n xs) {q : Nat} {cs : Array Value} {t : TypeId} {m : Nat × Nat} (hq : w.heap[q]? = some (.cells cs t m)) (ht : t ≠ e) : v.ownBlock ≠ some q := by
  rcases h.2 with ⟨rfl, _⟩ | ⟨g, cap, cur, rfl, _, hgg, _⟩
  · simp [Value.ownBlock]
  · intro e1
    simp [Value.ownBlock] at e1
    subst e1
    rw [hgg] at hq
    simp only [Option.some.injEq, Obj.cells.injEq] at hq
    exact ht hq.2.1.symm
set_option maxRecDepth 1000000 in
set_option maxHeartbeats 6400000 in
theorem shown_any (w : World) : Calls Try.prog 10 #[] w fun e w' => e = .returned (.bool true) ∧ Below w.heap.size w w' := by
  obtain ⟨T, hT⟩ : ∃ T, encT smallF = T := ⟨_, rfl⟩
  obtain ⟨x1, x2⟩ := ex_bytes
  have HENC := Lib.hid (fun V W (hf : FileAt W.heap.size W V smallF) => (show Calls Try.prog 12 #[V] W fun e w' => e = .returned (.tuple #[.string T, .int .i64 0]) ∧ Below W.heap.size W w' from by
    have := Encode_file smallF V W hf (Nat.le_refl _) smallTexts
    rwa [hT, ex_small] at this))
  rw [hT] at x1 x2
  have HX2 := Lib.hid x2
  clear hT x2
  go_enter Try.func10, Try.ntmps10
  go_wp2_with fail
  refine (small_any _).mono ?_
  rintro e w1 ⟨b1, rfl, h1, hb1, bel1⟩
  have P1 := Lib.hid (heap_alloc_lt (o := (.cells #[.slice (some ⟨b1, 0, none⟩) 4 4, .int .i64 0, .int .i64 2, .int .i64 4, .slice none 0 0, .slice none 0 0, .slice none 0 0] 26)) h1)
  have T1 := Lib.hid (bel1.alloc bel1.size (.cells #[.slice (some ⟨b1, 0, none⟩) 4 4, .int .i64 0, .int .i64 2, .int .i64 4, .slice none 0 0, .slice none 0 0, .slice none 0 0] 26))
  have F1 := Lib.hid (fileAt_of (this := 2) (fl := 0) (super := 4) (CRow.blk P1.out (by decide)) MRow.nil)
  have G1 := Lib.hid (heap_new w1 (.cells #[.slice (some ⟨b1, 0, none⟩) 4 4, .int .i64 0, .int .i64 2, .int .i64 4, .slice none 0 0, .slice none 0 0, .slice none 0 0] 26))
  clear h1 bel1
  go_wp2_with fail
  refine (HENC.out _ _ F1.out).mono ?_
  rintro e w2 ⟨rfl, bel2⟩
  have T2 := Lib.hid bel2
  clear bel2
  go_wp2_with fail
  refine (small_any _).mono ?_
  rintro e w3 ⟨b3, rfl, h3, hb3, bel3⟩
  have P3 := Lib.hid (heap_alloc_lt (o := (.cells #[.slice (some ⟨b3, 0, none⟩) 4 4, .int .i64 0, .int .i64 1, .int .i64 4, .slice none 0 0, .slice none 0 0, .slice none 0 0] 26)) h3)
  have T3 := Lib.hid (bel3.alloc bel3.size (.cells #[.slice (some ⟨b3, 0, none⟩) 4 4, .int .i64 0, .int .i64 1, .int .i64 4, .slice none 0 0, .slice none 0 0, .slice none 0 0] 26))
  have G3 := Lib.hid (heap_new w3 (.cells #[.slice (some ⟨b3, 0, none⟩) 4 4, .int .i64 0, .int .i64 1, .int .i64 4, .slice none 0 0, .slice none 0 0, .slice none 0 0] 26))
  clear h3 bel3
  go_wp2_with fail
  refine (small_any _).mono ?_
  rintro e w4 ⟨b4, rfl, h4, hb4, bel4⟩
  have P4 := Lib.hid (heap_alloc_lt (o := (.cells #[.slice (some ⟨b4, 0, none⟩) 4 4, .int .i64 1, .int .i64 2, .int .i64 4, .slice none 0 0, .slice none 0 0, .slice none 0 0] 26)) h4)
  have T4 := Lib.hid (bel4.alloc bel4.size (.cells #[.slice (some ⟨b4, 0, none⟩) 4 4, .int .i64 1, .int .i64 2, .int .i64 4, .slice none 0 0, .slice none 0 0, .slice none 0 0] 26))
  have G4 := Lib.hid (heap_new w4 (.cells #[.slice (some ⟨b4, 0, none⟩) 4 4, .int .i64 1, .int .i64 2, .int .i64 4, .slice none 0 0, .slice none 0 0, .slice none 0 0] 26))
  clear h4 bel4
  go_wp2_with fail
  refine (small_any _).mono ?_
  rintro e w5 ⟨b5, rfl, h5, hb5, bel5⟩
  have hlt5 : b5 < w5.heap.size := lt_of_block h5
  have OWN5 := Lib.hid (ownsRow_blk (w := (w5.alloc (.cells #[.slice (some ⟨b5, 0, none⟩) 4 4, .int .i64 0, .int .i64 2, .int .i64 4, .slice none 0 0, .slice none 0 0, .slice none 0 0] 26)).alloc (.cells #[.int .i64 4, .string ⟨#[]⟩, .int .i64 0, .int .i64 9, .int .i64 0, .int .i64 0] 47)) (n := 4) (size := 6) (heap_alloc_lt (o := (.cells #[.int .i64 4, .string ⟨#[]⟩, .int .i64 0, .int .i64 9, .int .i64 0, .int .i64 0] 47)) (heap_alloc_lt (o := (.cells #[.slice (some ⟨b5, 0, none⟩) 4 4, .int .i64 0, .int .i64 2, .int .i64 4, .slice none 0 0, .slice none 0 0, .slice none 0 0] 26)) h5)) rfl (by unfold maxLen; omega))
  have T5 := Lib.hid ((bel5.alloc bel5.size (.cells #[.slice (some ⟨b5, 0, none⟩) 4 4, .int .i64 0, .int .i64 2, .int .i64 4, .slice none 0 0, .slice none 0 0, .slice none 0 0] 26)).alloc (le_alloc bel5.size _) (.cells #[.int .i64 4, .string ⟨#[]⟩, .int .i64 0, .int .i64 9, .int .i64 0, .int .i64 0] 47))
  have G5 := Lib.hid (heap_alloc_lt (o := (.cells #[.int .i64 4, .string ⟨#[]⟩, .int .i64 0, .int .i64 9, .int .i64 0, .int .i64 0] 47)) (heap_new w5 (.cells #[.slice (some ⟨b5, 0, none⟩) 4 4, .int .i64 0, .int .i64 2, .int .i64 4, .slice none 0 0, .slice none 0 0, .slice none 0 0] 26)))
  have hz5 := bel5.size
  clear h5 bel5
  obtain ⟨i0, hi, hz0, hz1, hz2⟩ := info_parts Try.info47
  go_wp2_with (at_builtin; refine wpList_append_own _ rfl (.tmp 20) (.tmp 22) 22 rfl b5 47 i0 (.agg #[.int .i64 0, .string ⟨#[]⟩, .int .i64 0, .int .i64 0, .int .i64 0, .int .i64 0]) 6 56 Try.underlying22 hi hz0 hz1 hz2 rfl (by decide) _ _ _ rfl OWN5.out ⟨w5.heap.size + 1, 0, none⟩ 1 1 [.int .i64 4, .string ⟨#[]⟩, .int .i64 0, .int .i64 9, .int .i64 0, .int .i64 0] rfl rfl ?c1 ?c2 ?c3 ?c4 ?c5 ?_)
  case c1 => intro j u hj; have := new_cells (w5.alloc (.cells #[.slice (some ⟨b5, 0, none⟩) 4 4, .int .i64 0, .int .i64 2, .int .i64 4, .slice none 0 0, .slice none 0 0, .slice none 0 0] 26)) [.int .i64 4, .string ⟨#[]⟩, .int .i64 0, .int .i64 9, .int .i64 0, .int .i64 0] 47 j u hj; simpa using this
  case c2 => intro u hu; simp at hu; rcases hu with rfl | rfl | rfl | rfl | rfl | rfl <;> rfl
  case c3 => unfold maxLen; omega
  case c4 => omega
  case c5 => simp; omega
  intro v6 w6 own6 hg6 _
  obtain ⟨a6, c6, rfl⟩ := own_form own6
  have hg6' := hg6
  have G6 := Lib.hid ((hg6.block _ (by simp; omega) (by simp [Value.ownBlock]; omega)).trans G5.out)
  have T6 := Lib.hid (T5.out.grown hg6 T5.out.size (fun k hk => by simp [Value.ownBlock] at hk; subst hk; exact hb5))
  have own6s := ownsRow_setCell_other own6 (a := ⟨w5.heap.size, 0, none⟩) (own_ne own6 G6.out (by decide)) (.slice a6 5 c6)
  have P6 := Lib.hid (show CRow _ (w6.setCell ⟨w5.heap.size, 0, none⟩ (.slice a6 5 c6)) (.slice a6 5 c6) (smallP ++ [⟨4, ⟨#[]⟩, 0, 9, 0, 0⟩]) from Row.of_own own6s (show 4 + 1 ≤ maxLen by unfold maxLen; omega))
  have hz6 := hg6.size
  have g0 : w6.cell? ⟨w5.heap.size, 0, none⟩ = some (.slice (some ⟨b5, 0, none⟩) 4 4) := cells_of G6.out 0
  have f0 : w6.frozen? ⟨w5.heap.size, 0, none⟩ = false := free_of G6.out 0
  have hl6 := lt_of_block G6.out
  have G6W := Lib.hid (show (w6.setCell ⟨w5.heap.size, 0, none⟩ (.slice a6 5 c6)).heap[w5.heap.size]? = some (.cells #[.slice a6 5 c6, .int .i64 0, .int .i64 2, .int .i64 4, .slice none 0 0, .slice none 0 0, .slice none 0 0] 26 (0, 0)) from cells_setCell G6.out)
  have T6W := Lib.hid (T6.out.setCell (p := ⟨w5.heap.size, 0, none⟩) hz5 (.slice a6 5 c6))
  clear own6 own6s hg6 hg6'
  go_wp2_with fail
  refine (small_any _).mono ?_
  rintro e w7 ⟨b7, rfl, h7, hb7, bel7⟩
  generalize w6.setCell ⟨w5.heap.size, 0, none⟩ (.slice a6 5 c6) = W6 at *
  have E6 := bel7
  have E4 := Below.link T6W.out E6
  have E3 := Below.link T4.out E4
  have E2 := Below.link T3.out E3
  have E1 := Below.link T2.out E2
  have E0 := Below.link T1.out E1
  have K1 := Below.keep E1 (lt_of_block G1.out) G1.out
  have K3 := Below.keep E3 (lt_of_block G3.out) G3.out
  have K4 := Below.keep E4 (lt_of_block G4.out) G4.out
  have K5 := Below.keep E6 (lt_of_block G6W.out) G6W.out
  have Q1 := Below.keep E1 (lt_of_block P1.out) P1.out
  have Q3 := Below.keep E3 (lt_of_block P3.out) P3.out
  have Q4 := Below.keep E4 (lt_of_block P4.out) P4.out
  have l1 := lt_of_block K1
  have l3 := lt_of_block K3
  have l4 := lt_of_block K4
  have l5 := lt_of_block K5
  have FA1 := Lib.hid (show FileAt w7.heap.size w7 (.agg #[.slice (some ⟨b1, 0, none⟩) 4 4, .int .i64 0, .int .i64 2, .int .i64 4, .slice none 0 0, .slice none 0 0, .slice none 0 0]) smallF from fileAt_of (CRow.blk Q1 (by decide)) MRow.nil)
  have FA3 := Lib.hid (show FileAt w7.heap.size w7 (.agg #[.slice (some ⟨b3, 0, none⟩) 4 4, .int .i64 0, .int .i64 1, .int .i64 4, .slice none 0 0, .slice none 0 0, .slice none 0 0]) ⟨smallP, 0, 1, 4, [], [], []⟩ from fileAt_of (CRow.blk Q3 (by decide)) MRow.nil)
  have FA4 := Lib.hid (show FileAt w7.heap.size w7 (.agg #[.slice (some ⟨b4, 0, none⟩) 4 4, .int .i64 1, .int .i64 2, .int .i64 4, .slice none 0 0, .slice none 0 0, .slice none 0 0]) ⟨smallP, 1, 2, 4, [], [], []⟩ from fileAt_of (CRow.blk Q4 (by decide)) MRow.nil)
  have FA5 := Lib.hid (show FileAt w7.heap.size w7 (.agg #[.slice a6 5 c6, .int .i64 0, .int .i64 2, .int .i64 4, .slice none 0 0, .slice none 0 0, .slice none 0 0]) ⟨smallP ++ [⟨4, ⟨#[]⟩, 0, 9, 0, 0⟩], 0, 2, 4, [], [], []⟩ from FileAt.more (show FileAt W6.heap.size w7 (.agg #[.slice a6 5 c6, .int .i64 0, .int .i64 2, .int .i64 4, .slice none 0 0, .slice none 0 0, .slice none 0 0]) ⟨smallP ++ [⟨4, ⟨#[]⟩, 0, 9, 0, 0⟩], 0, 2, 4, [], [], []⟩ from fileAt_of (p := smallP ++ [⟨4, ⟨#[]⟩, 0, 9, 0, 0⟩]) (Ap := a6) (cp := c6) (fl := 0) (this := 2) (super := 4) (fds := []) (Af := none) (cf := 0) (show CRow W6.heap.size w7 (.slice a6 5 c6) (smallP ++ [⟨4, ⟨#[]⟩, 0, 9, 0, 0⟩]) from Row.keep P6.out fun p hp => E6.cell (p := p) hp) MRow.nil) E6.size)
  have BZ := Lib.hid E0
  have P7 := h7
  clear E0 E1 E2 E3 E4 E6 Q1 Q3 Q4 T1 T2 T3 T4 T5 T6 T6W P1 P3 P4 P6 G1 G3 G4 G5 G6 G6W F1 OWN5 bel7 g0 f0
  have k1_0 : w7.cell? ⟨w1.heap.size, 0, none⟩ = some (.slice (some ⟨b1, 0, none⟩) 4 4) := cells_of K1 0
  have k1_1 : w7.cell? ⟨w1.heap.size, 1, none⟩ = some (.int .i64 0) := cells_of K1 1
  have k1_2 : w7.cell? ⟨w1.heap.size, 2, none⟩ = some (.int .i64 2) := cells_of K1 2
  have k1_3 : w7.cell? ⟨w1.heap.size, 3, none⟩ = some (.int .i64 4) := cells_of K1 3
  have k1_4 : w7.cell? ⟨w1.heap.size, 4, none⟩ = some (.slice none 0 0) := cells_of K1 4
  have k1_5 : w7.cell? ⟨w1.heap.size, 5, none⟩ = some (.slice none 0 0) := cells_of K1 5
  have k1_6 : w7.cell? ⟨w1.heap.size, 6, none⟩ = some (.slice none 0 0) := cells_of K1 6
  have k3_0 : w7.cell? ⟨w3.heap.size, 0, none⟩ = some (.slice (some ⟨b3, 0, none⟩) 4 4) := cells_of K3 0
  have k3_1 : w7.cell? ⟨w3.heap.size, 1, none⟩ = some (.int .i64 0) := cells_of K3 1
  have k3_2 : w7.cell? ⟨w3.heap.size, 2, none⟩ = some (.int .i64 1) := cells_of K3 2
  have k3_3 : w7.cell? ⟨w3.heap.size, 3, none⟩ = some (.int .i64 4) := cells_of K3 3
  have k3_4 : w7.cell? ⟨w3.heap.size, 4, none⟩ = some (.slice none 0 0) := cells_of K3 4
  have k3_5 : w7.cell? ⟨w3.heap.size, 5, none⟩ = some (.slice none 0 0) := cells_of K3 5
  have k3_6 : w7.cell? ⟨w3.heap.size, 6, none⟩ = some (.slice none 0 0) := cells_of K3 6
  have k4_0 : w7.cell? ⟨w4.heap.size, 0, none⟩ = some (.slice (some ⟨b4, 0, none⟩) 4 4) := cells_of K4 0
  have k4_1 : w7.cell? ⟨w4.heap.size, 1, none⟩ = some (.int .i64 1) := cells_of K4 1
  have k4_2 : w7.cell? ⟨w4.heap.size, 2, none⟩ = some (.int .i64 2) := cells_of K4 2
  have k4_3 : w7.cell? ⟨w4.heap.size, 3, none⟩ = some (.int .i64 4) := cells_of K4 3
  have k4_4 : w7.cell? ⟨w4.heap.size, 4, none⟩ = some (.slice none 0 0) := cells_of K4 4
  have k4_5 : w7.cell? ⟨w4.heap.size, 5, none⟩ = some (.slice none 0 0) := cells_of K4 5
  have k4_6 : w7.cell? ⟨w4.heap.size, 6, none⟩ = some (.slice none 0 0) := cells_of K4 6
  have k5_0 : w7.cell? ⟨w5.heap.size, 0, none⟩ = some (.slice a6 5 c6) := cells_of K5 0
  have k5_1 : w7.cell? ⟨w5.heap.size, 1, none⟩ = some (.int .i64 0) := cells_of K5 1
  have k5_2 : w7.cell? ⟨w5.heap.size, 2, none⟩ = some (.int .i64 2) := cells_of K5 2
  have k5_3 : w7.cell? ⟨w5.heap.size, 3, none⟩ = some (.int .i64 4) := cells_of K5 3
  have k5_4 : w7.cell? ⟨w5.heap.size, 4, none⟩ = some (.slice none 0 0) := cells_of K5 4
  have k5_5 : w7.cell? ⟨w5.heap.size, 5, none⟩ = some (.slice none 0 0) := cells_of K5 5
  have k5_6 : w7.cell? ⟨w5.heap.size, 6, none⟩ = some (.slice none 0 0) := cells_of K5 6
  have MM : MRow ((w7.alloc (.cells #[.slice (some ⟨b7, 0, none⟩) 4 4, .int .i64 0, .int .i64 2, .int .i64 4, .slice none 0 0, .slice (some ⟨w7.heap.size + 1, 0, none⟩) 1 1, .slice none 0 0] 26)).alloc (.cells #[.int .i64 0, .int .i64 1, .int .i64 1, .int .i64 0, .int .i64 0, .string ⟨#[]⟩, .slice none 0 0] 38)).heap.size ((w7.alloc (.cells #[.slice (some ⟨b7, 0, none⟩) 4 4, .int .i64 0, .int .i64 2, .int .i64 4, .slice none 0 0, .slice (some ⟨w7.heap.size + 1, 0, none⟩) 1 1, .slice none 0 0] 26)).alloc (.cells #[.int .i64 0, .int .i64 1, .int .i64 1, .int .i64 0, .int .i64 0, .string ⟨#[]⟩, .slice none 0 0] 38)) (.slice (some ⟨w7.heap.size + 1, 0, none⟩) 1 1) [⟨0, 1, 1, 0, 0, ⟨#[]⟩, []⟩] := by
    refine ⟨[.slice none 0 0], rfl, fun i m hv h1 h2 => ?_, Row.of_own (ownsRow_blk (heap_new2 w7 (.cells #[.slice (some ⟨b7, 0, none⟩) 4 4, .int .i64 0, .int .i64 2, .int .i64 4, .slice none 0 0, .slice (some ⟨w7.heap.size + 1, 0, none⟩) 1 1, .slice none 0 0] 26) (.cells #[.int .i64 0, .int .i64 1, .int .i64 1, .int .i64 0, .int .i64 0, .string ⟨#[]⟩, .slice none 0 0] 38)) rfl (by unfold maxLen; decide)) (by unfold maxLen; decide)⟩
    rcases i with _ | i
    · simp at h1 h2
      subst h1 h2
      exact Row.nil
    · simp at h1
  have CC : CRow ((w7.alloc (.cells #[.slice (some ⟨b7, 0, none⟩) 4 4, .int .i64 0, .int .i64 2, .int .i64 4, .slice none 0 0, .slice (some ⟨w7.heap.size + 1, 0, none⟩) 1 1, .slice none 0 0] 26)).alloc (.cells #[.int .i64 0, .int .i64 1, .int .i64 1, .int .i64 0, .int .i64 0, .string ⟨#[]⟩, .slice none 0 0] 38)).heap.size ((w7.alloc (.cells #[.slice (some ⟨b7, 0, none⟩) 4 4, .int .i64 0, .int .i64 2, .int .i64 4, .slice none 0 0, .slice (some ⟨w7.heap.size + 1, 0, none⟩) 1 1, .slice none 0 0] 26)).alloc (.cells #[.int .i64 0, .int .i64 1, .int .i64 1, .int .i64 0, .int .i64 0, .string ⟨#[]⟩, .slice none 0 0] 38)) (.slice (some ⟨b7, 0, none⟩) 4 4) smallP := CRow.blk (heap_alloc_lt (o := (.cells #[.int .i64 0, .int .i64 1, .int .i64 1, .int .i64 0, .int .i64 0, .string ⟨#[]⟩, .slice none 0 0] 38)) (heap_alloc_lt (o := (.cells #[.slice (some ⟨b7, 0, none⟩) 4 4, .int .i64 0, .int .i64 2, .int .i64 4, .slice none 0 0, .slice (some ⟨w7.heap.size + 1, 0, none⟩) 1 1, .slice none 0 0] 26)) P7)) (by decide)
  have FA7 := Lib.hid (show FileAt ((w7.alloc (.cells #[.slice (some ⟨b7, 0, none⟩) 4 4, .int .i64 0, .int .i64 2, .int .i64 4, .slice none 0 0, .slice (some ⟨w7.heap.size + 1, 0, none⟩) 1 1, .slice none 0 0] 26)).alloc (.cells #[.int .i64 0, .int .i64 1, .int .i64 1, .int .i64 0, .int .i64 0, .string ⟨#[]⟩, .slice none 0 0] 38)).heap.size ((w7.alloc (.cells #[.slice (some ⟨b7, 0, none⟩) 4 4, .int .i64 0, .int .i64 2, .int .i64 4, .slice none 0 0, .slice (some ⟨w7.heap.size + 1, 0, none⟩) 1 1, .slice none 0 0] 26)).alloc (.cells #[.int .i64 0, .int .i64 1, .int .i64 1, .int .i64 0, .int .i64 0, .string ⟨#[]⟩, .slice none 0 0] 38)) (.agg #[.slice (some ⟨b7, 0, none⟩) 4 4, .int .i64 0, .int .i64 2, .int .i64 4, .slice none 0 0, .slice (some ⟨w7.heap.size + 1, 0, none⟩) 1 1, .slice none 0 0]) ⟨smallP, 0, 2, 4, [], [⟨0, 1, 1, 0, 0, ⟨#[]⟩, []⟩], []⟩ from
    fileAt_of (p := smallP) (Ap := some ⟨b7, 0, none⟩) (cp := 4) (fl := 0) (this := 2) (super := 4) (fds := [⟨0, 1, 1, 0, 0, ⟨#[]⟩, []⟩]) (Af := some ⟨w7.heap.size + 1, 0, none⟩) (cf := 1) CC MM)
  clear MM CC
  have G7 := Lib.hid (heap_alloc_lt (o := (.cells #[.int .i64 0, .int .i64 1, .int .i64 1, .int .i64 0, .int .i64 0, .string ⟨#[]⟩, .slice none 0 0] 38)) (heap_new w7 (.cells #[.slice (some ⟨b7, 0, none⟩) 4 4, .int .i64 0, .int .i64 2, .int .i64 4, .slice none 0 0, .slice (some ⟨w7.heap.size + 1, 0, none⟩) 1 1, .slice none 0 0] 26)))
  have BW8 := Lib.hid ((BZ.out.alloc BZ.out.size (.cells #[.slice (some ⟨b7, 0, none⟩) 4 4, .int .i64 0, .int .i64 2, .int .i64 4, .slice none 0 0, .slice (some ⟨w7.heap.size + 1, 0, none⟩) 1 1, .slice none 0 0] 26)).alloc (le_alloc BZ.out.size _) (.cells #[.int .i64 0, .int .i64 1, .int .i64 1, .int .i64 0, .int .i64 0, .string ⟨#[]⟩, .slice none 0 0] 38))
  clear K1 K3 K4 K5 P7 h7
  have HRT := Lib.hid (fun (B : Nat) (f : Fl) (V : Value) (W : World) (e : Int) (hf : FileAt B W V f) (hB : B ≤ W.heap.size) (ht : Texts f.pool) (he : encF f = e) => (show Calls Try.prog 14 #[V] W fun e' w' => e' = .returned (.int .i64 e) ∧ Below W.heap.size W w' from by
    have := Right_file f V W hf hB ht
    rwa [he] at this))
  go_wp2_with fail
  refine (HRT.out _ smallF _ _ 0 ((FA1.out.alloc (Nat.le_refl _) (.cells #[.slice (some ⟨b7, 0, none⟩) 4 4, .int .i64 0, .int .i64 2, .int .i64 4, .slice none 0 0, .slice (some ⟨w7.heap.size + 1, 0, none⟩) 1 1, .slice none 0 0] 26)).alloc (le_alloc (Nat.le_refl _) _) (.cells #[.int .i64 0, .int .i64 1, .int .i64 1, .int .i64 0, .int .i64 0, .string ⟨#[]⟩, .slice none 0 0] 38)) (le_alloc (le_alloc (Nat.le_refl _) _) _) smallTexts ex_small).mono ?_
  rintro e y0 ⟨rfl, hb⟩
  have BY0 := Lib.hid (Below.link BW8.out hb)
  have ly0 := hb.size
  simp only [World.size_alloc] at ly0
  have U0 := Lib.hid ((((Below.refl w7.heap.size w7).alloc (Nat.le_refl _) (.cells #[.slice (some ⟨b7, 0, none⟩) 4 4, .int .i64 0, .int .i64 2, .int .i64 4, .slice none 0 0, .slice (some ⟨w7.heap.size + 1, 0, none⟩) 1 1, .slice none 0 0] 26)).alloc (le_alloc (Nat.le_refl _) _) (.cells #[.int .i64 0, .int .i64 1, .int .i64 1, .int .i64 0, .int .i64 0, .string ⟨#[]⟩, .slice none 0 0] 38)).trans (hb.mono (by simp; omega)))
  have G7_0 := Lib.hid (Below.keep hb (by simp; omega) G7.out)
  have FA7_0 := Lib.hid (FA7.out.below hb (Nat.le_refl _))
  clear hb
  have sl := HX2.out
  have x1' : (13 : Int) < T.size := by omega
  have x3 : (T.extract 0 13).toList = [67, 82, 85, 88, 0, 4, 1, 0, 1, 65, 4, 0, 1] := by rw [sl]; decide +kernel
  clear sl
  have j3_0 : y0.cell? ⟨w3.heap.size, 0, none⟩ = some (.slice (some ⟨b3, 0, none⟩) 4 4) := (U0.out.cell (p := ⟨w3.heap.size, 0, none⟩) l3).trans k3_0
  have j3_1 : y0.cell? ⟨w3.heap.size, 1, none⟩ = some (.int .i64 0) := (U0.out.cell (p := ⟨w3.heap.size, 1, none⟩) l3).trans k3_1
  have j3_2 : y0.cell? ⟨w3.heap.size, 2, none⟩ = some (.int .i64 1) := (U0.out.cell (p := ⟨w3.heap.size, 2, none⟩) l3).trans k3_2
  have j3_3 : y0.cell? ⟨w3.heap.size, 3, none⟩ = some (.int .i64 4) := (U0.out.cell (p := ⟨w3.heap.size, 3, none⟩) l3).trans k3_3
  have j3_4 : y0.cell? ⟨w3.heap.size, 4, none⟩ = some (.slice none 0 0) := (U0.out.cell (p := ⟨w3.heap.size, 4, none⟩) l3).trans k3_4
  have j3_5 : y0.cell? ⟨w3.heap.size, 5, none⟩ = some (.slice none 0 0) := (U0.out.cell (p := ⟨w3.heap.size, 5, none⟩) l3).trans k3_5
  have j3_6 : y0.cell? ⟨w3.heap.size, 6, none⟩ = some (.slice none 0 0) := (U0.out.cell (p := ⟨w3.heap.size, 6, none⟩) l3).trans k3_6
  go_wp2_with fail
  refine (HRT.out _ ⟨smallP, 0, 1, 4, [], [], []⟩ _ _ 7 (FA3.out.below U0.out (Nat.le_refl _)) (by omega) smallTexts ex_this).mono ?_
  rintro e y1 ⟨rfl, hb⟩
  have BY1 := Lib.hid (Below.link BY0.out hb)
  have ly1 := hb.size
  have U1 := Lib.hid (U0.out.trans (hb.mono (by omega)))
  have G7_1 := Lib.hid (Below.keep hb (by omega) G7_0.out)
  have FA7_1 := Lib.hid (FA7_0.out.below hb (by simp; omega))
  clear hb j3_0 j3_1 j3_2 j3_3 j3_4 j3_5 j3_6
  have j4_0 : y1.cell? ⟨w4.heap.size, 0, none⟩ = some (.slice (some ⟨b4, 0, none⟩) 4 4) := (U1.out.cell (p := ⟨w4.heap.size, 0, none⟩) l4).trans k4_0
  have j4_1 : y1.cell? ⟨w4.heap.size, 1, none⟩ = some (.int .i64 1) := (U1.out.cell (p := ⟨w4.heap.size, 1, none⟩) l4).trans k4_1
  have j4_2 : y1.cell? ⟨w4.heap.size, 2, none⟩ = some (.int .i64 2) := (U1.out.cell (p := ⟨w4.heap.size, 2, none⟩) l4).trans k4_2
  have j4_3 : y1.cell? ⟨w4.heap.size, 3, none⟩ = some (.int .i64 4) := (U1.out.cell (p := ⟨w4.heap.size, 3, none⟩) l4).trans k4_3
  have j4_4 : y1.cell? ⟨w4.heap.size, 4, none⟩ = some (.slice none 0 0) := (U1.out.cell (p := ⟨w4.heap.size, 4, none⟩) l4).trans k4_4
  have j4_5 : y1.cell? ⟨w4.heap.size, 5, none⟩ = some (.slice none 0 0) := (U1.out.cell (p := ⟨w4.heap.size, 5, none⟩) l4).trans k4_5
  have j4_6 : y1.cell? ⟨w4.heap.size, 6, none⟩ = some (.slice none 0 0) := (U1.out.cell (p := ⟨w4.heap.size, 6, none⟩) l4).trans k4_6
  go_wp2_with fail
  refine (HRT.out _ ⟨smallP, 1, 2, 4, [], [], []⟩ _ _ 10 (FA4.out.below U1.out (Nat.le_refl _)) (by omega) smallTexts ex_flags).mono ?_
  rintro e y2 ⟨rfl, hb⟩
  have BY2 := Lib.hid (Below.link BY1.out hb)
  have ly2 := hb.size
  have U2 := Lib.hid (U1.out.trans (hb.mono (by omega)))
  have G7_2 := Lib.hid (Below.keep hb (by omega) G7_1.out)
  have FA7_2 := Lib.hid (FA7_1.out.below hb (by simp; omega))
  clear hb j4_0 j4_1 j4_2 j4_3 j4_4 j4_5 j4_6
  have j5_0 : y2.cell? ⟨w5.heap.size, 0, none⟩ = some (.slice a6 5 c6) := (U2.out.cell (p := ⟨w5.heap.size, 0, none⟩) l5).trans k5_0
  have j5_1 : y2.cell? ⟨w5.heap.size, 1, none⟩ = some (.int .i64 0) := (U2.out.cell (p := ⟨w5.heap.size, 1, none⟩) l5).trans k5_1
  have j5_2 : y2.cell? ⟨w5.heap.size, 2, none⟩ = some (.int .i64 2) := (U2.out.cell (p := ⟨w5.heap.size, 2, none⟩) l5).trans k5_2
  have j5_3 : y2.cell? ⟨w5.heap.size, 3, none⟩ = some (.int .i64 4) := (U2.out.cell (p := ⟨w5.heap.size, 3, none⟩) l5).trans k5_3
  have j5_4 : y2.cell? ⟨w5.heap.size, 4, none⟩ = some (.slice none 0 0) := (U2.out.cell (p := ⟨w5.heap.size, 4, none⟩) l5).trans k5_4
  have j5_5 : y2.cell? ⟨w5.heap.size, 5, none⟩ = some (.slice none 0 0) := (U2.out.cell (p := ⟨w5.heap.size, 5, none⟩) l5).trans k5_5
  have j5_6 : y2.cell? ⟨w5.heap.size, 6, none⟩ = some (.slice none 0 0) := (U2.out.cell (p := ⟨w5.heap.size, 6, none⟩) l5).trans k5_6
  go_wp2_with fail
  refine (HRT.out _ ⟨smallP ++ [⟨4, ⟨#[]⟩, 0, 9, 0, 0⟩], 0, 2, 4, [], [], []⟩ _ _ 7 (FA5.out.below U2.out (Nat.le_refl _)) (by omega) poolTexts ex_pool).mono ?_
  rintro e y3 ⟨rfl, hb⟩
  have BY3 := Lib.hid (Below.link BY2.out hb)
  have ly3 := hb.size
  have U3 := Lib.hid (U2.out.trans (hb.mono (by omega)))
  have G7_3 := Lib.hid (Below.keep hb (by omega) G7_2.out)
  have FA7_3 := Lib.hid (FA7_2.out.below hb (by simp; omega))
  clear hb j5_0 j5_1 j5_2 j5_3 j5_4 j5_5 j5_6
  have j7_0 : y3.cell? ⟨w7.heap.size, 0, none⟩ = some (.slice (some ⟨b7, 0, none⟩) 4 4) := cells_of G7_3.out 0
  have j7_1 : y3.cell? ⟨w7.heap.size, 1, none⟩ = some (.int .i64 0) := cells_of G7_3.out 1
  have j7_2 : y3.cell? ⟨w7.heap.size, 2, none⟩ = some (.int .i64 2) := cells_of G7_3.out 2
  have j7_3 : y3.cell? ⟨w7.heap.size, 3, none⟩ = some (.int .i64 4) := cells_of G7_3.out 3
  have j7_4 : y3.cell? ⟨w7.heap.size, 4, none⟩ = some (.slice none 0 0) := cells_of G7_3.out 4
  have j7_5 : y3.cell? ⟨w7.heap.size, 5, none⟩ = some (.slice (some ⟨w7.heap.size + 1, 0, none⟩) 1 1) := cells_of G7_3.out 5
  have j7_6 : y3.cell? ⟨w7.heap.size, 6, none⟩ = some (.slice none 0 0) := cells_of G7_3.out 6
  go_wp2_with fail
  refine (HRT.out _ ⟨smallP, 0, 2, 4, [], [⟨0, 1, 1, 0, 0, ⟨#[]⟩, []⟩], []⟩ _ _ 9 FA7_3.out (by simp; omega) smallTexts ex_field).mono ?_
  rintro e y4 ⟨rfl, hb⟩
  have BY4 := Lib.hid (Below.link BY3.out hb)
  have ly4 := hb.size
  clear hb j7_0 j7_1 j7_2 j7_3 j7_4 j7_5 j7_6
  go_wp2
  go_ret
  exact ⟨rfl, BY4.out⟩
end Go.Proofs.Ytcgloepfnnfioaa
