/-
  WALK of does: a call of both arenas.
-/
import Derived.Test.YtmgpimibnogcaaaR6
import Derived.Deep.RegionHeld3
set_option linter.unusedVariables false
set_option linter.unusedSimpArgs false
namespace Go.Proofs.Ytmgpimibnogcaaa
open Go.RowKit

theorem not_used {Bs : List Blk} {x : Int} (h : x ∉ usedL 1 Bs) : NoUsed Bs x := by
  intro b h0 hat
  cases hu : b.us with
  | false => rfl
  | true =>
    exfalso
    obtain ⟨pre, post, rfl, e⟩ := hat
    have := usedL_at (a := 1) (pre := pre) (post := post) hu
    rw [← e] at this
    exact h (by rwa [show ((x.toNat : Nat) : Int) = x by omega] at this)
/-- Does a block fit? -/
def fitsB (Bs : List Blk) (n : Int) : Bool := decide (1 ≤ n) && decide (n ≤ 1048576) && Bs.any (fun c => !c.us && decide (n.toNat + 1 ≤ c.sz))
theorem fitsB_iff (Bs : List Blk) (n : Int) : fitsB Bs n = true ↔ (1 ≤ n ∧ n ≤ 1048576) ∧ ∃ c ∈ Bs, c.us = false ∧ n.toNat + 1 ≤ c.sz := by
  unfold fitsB
  rw [Bool.and_eq_true, Bool.and_eq_true, decide_eq_true_eq, decide_eq_true_eq, List.any_eq_true]
  simp only [Bool.and_eq_true, Bool.not_eq_true', decide_eq_true_eq]
theorem bool_of_iff {u v : Bool} {p : Prop} (h : u = true ↔ p) (h' : v = true ↔ p) : u = v := by
  rw [Bool.eq_iff_iff, h, h']
section
variable {q p b r rp : Nat} {Bs : List Blk} {w w' : World}
theorem pfits (h : Arena q p b Bs w) (n : Int) : Calls Try.prog 16 #[.pointer (some ⟨q, 0, none⟩), .int .i64 n] w fun e w' => e = .returned (.bool (fitsB Bs n)) ∧ ∃ k, w' = w.drewN k := by
  refine (arena_fits h n).mono ?_
  rintro e w' ⟨u, rfl, hu, hk⟩
  exact ⟨by rw [bool_of_iff hu (fitsB_iff Bs n)], hk⟩
theorem rfits (hw : Wf Bs) (h : RM r rp (words Bs) w) (n : Int) : Calls Try.prog 30 #[.pointer (some ⟨r, 0, none⟩), .int .i64 n] w fun e w' => e = .returned (.bool (fitsB Bs n)) ∧ ∃ k, w' = w.drewN k := by
  refine (rfits_any r rp Bs w hw h n).mono ?_
  rintro e w' ⟨⟨u, rfl, hu⟩, hk⟩
  exact ⟨by rw [bool_of_iff hu (fitsB_iff Bs n)], hk⟩
/-- Both arenas hold these blocks. -/
structure Two (q p b r rp : Nat) (Bs : List Blk) (w : World) : Prop where
  ar : Arena q p b Bs w
  rm : RM r rp (words Bs) w
theorem Two.below (h : Two q p b r rp Bs w) (hb : Below w.heap.size w w') : Two q p b r rp Bs w' := ⟨h.ar.below hb, h.rm.below hb⟩
theorem Two.drewN (h : Two q p b r rp Bs w) (n : Nat) : Two q p b r rp Bs (w.drewN n) := ⟨h.ar.drewN n, h.rm.drewN n⟩
theorem RM.upd3 {ws : List Int} (h : RM r rp ws w) (hu : Upd [q, p, b] w w') (hne : (r ≠ q ∧ r ≠ p ∧ r ≠ b) ∧ rp ≠ q ∧ rp ≠ p ∧ rp ≠ b) : RM r rp ws w' :=
  h.upd hu (by simp only [List.mem_cons, List.not_mem_nil, or_false]; omega) (by simp only [List.mem_cons, List.not_mem_nil, or_false]; omega)
theorem Arena.upd1 (h : Arena q p b Bs w) (hu : Upd [rp] w w') (hne : (r ≠ q ∧ r ≠ p ∧ r ≠ b) ∧ rp ≠ q ∧ rp ≠ p ∧ rp ≠ b) : Arena q p b Bs w' := by
  obtain ⟨l1, l2, l3⟩ := h.lt
  refine h.keep fun k hk => hu.block k (by rcases hk with rfl | rfl | rfl <;> assumption) (by simp only [List.mem_cons, List.not_mem_nil, or_false]; omega)
/-- What a call of both leaves. -/
def Did (q p b r rp : Nat) (Bs : List Blk) (w : World) (e : Ending) (w' : World) : Prop := e = .returned (.bool true) ∧ (∃ Bs', len Bs' = len Bs ∧ Two q p b r rp Bs' w') ∧ Upd [q, p, b, rp] w w'
theorem free_len {pre post pre1 dl er post1 : List Blk} {c : Blk} (h1 : pre = pre1 ++ dl) (h2 : post = er ++ post1) : len (pre1 ++ freeBk (len dl + c.sz + len er) :: post1) = len (pre ++ c :: post) := by
  have hc : 1 ≤ c.sz := by unfold Blk.sz; omega
  subst h1 h2
  rw [len_append, len_cons, len_append, len_append, len_cons, len_append, freeBk_sz (by omega)]
  omega
/-- Free of the program, and what the document's Free must leave. -/
theorem pfree {pre post : List Blk} {c : Blk} (h : Arena q p b (pre ++ c :: post) w) (hu : c.us = true) :
    Calls Try.prog 19 #[.pointer (some ⟨q, 0, none⟩), .int .i64 ((1 + len pre : Nat) : Int)] w fun e w' => e = .returned (.int .i64 0) ∧ (∃ F, Arena q p b F w' ∧ mg [] (pre ++ freeBk c.sz :: post) = F ∧ len F = len (pre ++ c :: post)) ∧ Upd [q, p, b] w w' := by
  refine (arena_free q p b pre post c w h hu).mono ?_
  rintro e w' ⟨rfl, pre1, dl, er, post1, h1, h2, h3, h4, ha, hU⟩
  have hl := free_len (c := c) h1 h2
  have hp : NoAdj pre := noAdj_left h.1.adj
  subst h1 h2
  exact ⟨rfl, ⟨_, ha, mg_free hp h3 h4 ha.1.adj (by unfold Blk.sz; omega), hl⟩, hU⟩
end
set_option maxRecDepth 1000000 in
set_option maxHeartbeats 12800000 in
theorem does_any (q p b r rp : Nat) (Bs : List Blk) (o : Op) (w : World) (h : Two q p b r rp Bs w) (hne : (r ≠ q ∧ r ≠ p ∧ r ≠ b) ∧ rp ≠ q ∧ rp ≠ p ∧ rp ≠ b) (hok : o.ok) :
    Calls Try.prog 14 #[.pointer (some ⟨q, 0, none⟩), .pointer (some ⟨r, 0, none⟩), .agg #[.int .i64 o.k, .int .i64 o.a, .int .i64 o.b, .int .i64 o.c, .bool o.f]] w (Did q p b r rp Bs w) := by
  have HNE := Lib.hid hne
  have HOK := Lib.hid hok
  have HT := Lib.hid (h.below ((Below.refl _ w).alloc (Nat.le_refl _) (.cells #[.int .i64 o.k, .int .i64 o.a, .int .i64 o.b, .int .i64 o.c, .bool o.f] 31)))
  have U0 := Lib.hid (Upd.of_below (S := [q, p, b, rp]) ((Below.refl _ w).alloc (Nat.le_refl _) (.cells #[.int .i64 o.k, .int .i64 o.a, .int .i64 o.b, .int .i64 o.c, .bool o.f] 31)))
  have HO := Lib.hid (heap_new w (.cells #[.int .i64 o.k, .int .i64 o.a, .int .i64 o.b, .int .i64 o.c, .bool o.f] 31))
  have HWF := Lib.hid h.ar.1
  obtain ⟨g, hg⟩ : ∃ g, w.heap.size = g := ⟨_, rfl⟩
  have hgn := h.ar.lt
  have hgr := h.rm.lt
  have HGN := Lib.hid (show g ∉ [q, p, b] ∧ g ≠ rp by simp only [List.mem_cons, List.not_mem_nil, or_false]; omega)
  clear h hne hok hgn hgr
  go_enter Try.func14, Try.ntmps14
  go_upto_region 1 with fail
  generalize w.alloc (.cells #[.int .i64 o.k, .int .i64 o.a, .int .i64 o.b, .int .i64 o.c, .bool o.f] 31) = w0 at *
  rw [hg] at *
  clear hg
  have c0 : w0.cell? ⟨g, 0, none⟩ = some (.int .i64 o.k) := cells_of HO.out 0
  have c1 : w0.cell? ⟨g, 1, none⟩ = some (.int .i64 o.a) := cells_of HO.out 1
  have c2 : w0.cell? ⟨g, 2, none⟩ = some (.int .i64 o.b) := cells_of HO.out 2
  have c3 : w0.cell? ⟨g, 3, none⟩ = some (.int .i64 o.c) := cells_of HO.out 3
  have hgs := lt_of_block HO.out
  go_wp2_with fail
  refine (pick_any o.k 8 _ HOK.out.1 (by decide) (by decide)).mono ?_
  rintro e wa ⟨rfl, rfl⟩
  obtain ⟨t, ht⟩ : ∃ t, pickN o.k 8 = t := ⟨_, rfl⟩
  have ht8 : t < 8 := by rw [← ht]; exact pickN_lt _ (by decide)
  rw [ht]
  clear ht
  rcases (show t = 0 ∨ t = 1 ∨ t = 2 ∨ t = 3 ∨ t = 4 ∨ t = 5 ∨ t = 6 ∨ t = 7 by omega) with rfl | rfl | rfl | rfl | rfl | rfl | rfl | rfl
  -- TAKE
  · have HF1 := Lib.hid (fun W (h : Arena q p b Bs W) => pfits h o.b)
    have HF2 := Lib.hid (fun W (h : RM r rp (words Bs) W) => rfits HWF.out h o.b)
    have hff : ((fitsB Bs o.b != fitsB Bs o.b) : Bool) = false := by simp
    obtain ⟨fb, hfb⟩ : ∃ fb, fitsB Bs o.b = fb := ⟨_, rfl⟩
    rw [hfb] at HF1 HF2 hff
    clear hfb
    go_wp2
    go_quiet ((first | (go_at_call 16; exact Calls.quiet_of (HF1.out _ (HT.out.ar.drewN _))) | (go_at_call 30; exact Calls.quiet_of (HF2.out _ (HT.out.rm.drewN _)))))
    obtain ⟨wq, hwq⟩ : ∃ wq, wa.drewN nq = wq := ⟨_, rfl⟩
    have T1 := Lib.hid (show Two q p b r rp Bs wq by rw [← hwq]; exact HT.out.drewN nq)
    have U1 := Lib.hid (show Upd [q, p, b, rp] w wq by rw [← hwq]; exact U0.out.drewN nq)
    have c2 : wq.cell? ⟨g, 2, none⟩ = some (.int .i64 o.b) := by rw [← hwq]; exact cells_of HO.out 2
    have hgs2 : g < wq.heap.size := by rw [← hwq]; exact hgs
    have HO2 := Lib.hid (show wq.heap[g]? = some (.cells #[.int .i64 o.k, .int .i64 o.a, .int .i64 o.b, .int .i64 o.c, .bool o.f] 31 (0, 0)) by rw [← hwq]; exact HO.out)
    rw [hwq]
    clear hwq HT U0 HO HF1 HF2 hff c0 c1 c2 c3 hgs
    have c2 : wq.cell? ⟨g, 2, none⟩ = some (.int .i64 o.b) := cells_of HO2.out 2
    by_cases hn : 1 ≤ o.b ∧ o.b ≤ 1048576
    · obtain ⟨n, hnn⟩ : ∃ n : Nat, o.b = n := ⟨o.b.toNat, by omega⟩
      rw [hnn] at hn c2
      have hn1 : 1 ≤ n := by omega
      have hn2 : n ≤ 1048576 := by omega
      clear hn
      obtain ⟨best, size, hsel⟩ := sel_ex n Bs
      by_cases hbest : best = 0
      · subst hbest
        have HP := Lib.hid (alloc_none T1.out.ar n hn1 hn2 (by
          rcases hsel with ⟨_, h⟩ | ⟨A, c, C, _, _, _, h, _⟩
          · exact h
          · omega))
        have HR := Lib.hid (fun W (h : RM r rp (words Bs) W) => ralloc_none r rp Bs W HWF.out h n hn1 hn2 size hsel)
        clear hsel
        go_wp2_with fail
        refine HP.out.mono ?_
        rintro e w3 ⟨rfl, k3, hk3⟩
        have T3 := Lib.hid (show Two q p b r rp Bs w3 by rw [hk3]; exact T1.out.drewN k3)
        have U3 := Lib.hid (show Upd [q, p, b, rp] w w3 by rw [hk3]; exact U1.out.drewN k3)
        have c2' : w3.cell? ⟨g, 2, none⟩ = some (.int .i64 (n : Int)) := by rw [hk3]; exact c2
        have hgs3 : g < w3.heap.size := by rw [hk3]; exact hgs2
        clear hk3 c2 T1 U1 HO2 hgs2
        go_wp2_with fail
        refine (HR.out _ T3.out.rm).mono ?_
        rintro e w4 ⟨rfl, k4, hk4⟩
        have T4 := Lib.hid (show Two q p b r rp Bs w4 by rw [hk4]; exact T3.out.drewN k4)
        have U4 := Lib.hid (show Upd [q, p, b, rp] w w4 by rw [hk4]; exact U3.out.drewN k4)
        clear hk4
        go_wp2
        go_ret
        exact ⟨rfl, ⟨Bs, rfl, T4.out⟩, U4.out⟩
      · obtain ⟨A, c, C, rfl, hu, hz, hA, hC⟩ : ∃ A c C, Bs = A ++ c :: C ∧ c.us = false ∧ n + 1 ≤ c.sz ∧ (∀ d ∈ A, d.us = false → n + 1 ≤ d.sz → c.sz < d.sz) ∧ ∀ d ∈ C, d.us = false → n + 1 ≤ d.sz → c.sz ≤ d.sz := by
          rcases hsel with ⟨h, _⟩ | ⟨A, c, C, h1, h2, h3, _, _, h4, h5⟩
          · exact absurd h hbest
          · exact ⟨A, c, C, h1, h2, h3, h4, h5⟩
        have HP := Lib.hid (alloc_at T1.out.ar n hn1 hn2 hu hz hA hC)
        have HR := Lib.hid (fun W (h : RM r rp (words (A ++ c :: C)) W) => ralloc_some r rp A C c W HWF.out h n hn1 hn2 hu hz hA hC)
        have HL := Lib.hid (show len (A ++ takeB n c ++ C) = len (A ++ c :: C) by rw [len_append, len_append, len_append, len_cons, takeB_len _ _ hz]; omega)
        have haa : (((1 + len A : Nat) : Int) == ((1 + len A : Nat) : Int)) = true := by simp
        clear hsel hu hz hA hC hbest
        generalize 1 + len A = a at *
        go_wp2_with fail
        refine HP.out.mono ?_
        rintro e w3 ⟨rfl, ha, hu⟩
        have A3 := Lib.hid ha
        have R3 := Lib.hid (T1.out.rm.upd3 hu HNE.out)
        have U3 := Lib.hid (U1.out.trans (hu.mono (T := [q, p, b, rp]) (by simp)))
        have ho3 := (hu.block g hgs2 HGN.out.1).trans HO2.out
        have c2' : w3.cell? ⟨g, 2, none⟩ = some (.int .i64 (n : Int)) := by rw [← hnn]; exact cells_of ho3 2
        have hgs3 := lt_of_block ho3
        clear ha hu ho3 c2 T1 U1 HO2 hgs2
        go_wp2_with fail
        refine (HR.out _ R3.out).mono ?_
        rintro e w4 ⟨rfl, hr, hu⟩
        have T4 := Lib.hid (show Two q p b r rp (A ++ takeB n c ++ C) w4 from ⟨A3.out.upd1 hu HNE.out, hr⟩)
        have U4 := Lib.hid (U3.out.trans (hu.mono (T := [q, p, b, rp]) (by simp)))
        clear hr hu
        go_wp2
        go_ret
        exact ⟨rfl, ⟨_, HL.out, T4.out⟩, U4.out⟩
    · have HP := Lib.hid (arena_alloc q p b Bs wq T1.out.ar o.b)
      have HR := Lib.hid (fun W => ralloc_bad r rp W o.b hn)
      have HN := Lib.hid hn
      clear hn
      go_wp2_with fail
      refine HP.out.mono ?_
      rintro e w3 (⟨_, rfl, rfl⟩ | ⟨h, _⟩ | ⟨h, _⟩)
      · go_wp2_with fail
        refine (HR.out _).mono ?_
        rintro e w4 ⟨rfl, rfl⟩
        go_wp2
        go_ret
        exact ⟨rfl, ⟨Bs, rfl, T1.out⟩, U1.out⟩
      · exact absurd h HN.out
      · exact absurd h HN.out
  -- TAKE
  · have HF1 := Lib.hid (fun W (h : Arena q p b Bs W) => pfits h o.b)
    have HF2 := Lib.hid (fun W (h : RM r rp (words Bs) W) => rfits HWF.out h o.b)
    have hff : ((fitsB Bs o.b != fitsB Bs o.b) : Bool) = false := by simp
    obtain ⟨fb, hfb⟩ : ∃ fb, fitsB Bs o.b = fb := ⟨_, rfl⟩
    rw [hfb] at HF1 HF2 hff
    clear hfb
    go_wp2
    go_quiet ((first | (go_at_call 16; exact Calls.quiet_of (HF1.out _ (HT.out.ar.drewN _))) | (go_at_call 30; exact Calls.quiet_of (HF2.out _ (HT.out.rm.drewN _)))))
    obtain ⟨wq, hwq⟩ : ∃ wq, wa.drewN nq = wq := ⟨_, rfl⟩
    have T1 := Lib.hid (show Two q p b r rp Bs wq by rw [← hwq]; exact HT.out.drewN nq)
    have U1 := Lib.hid (show Upd [q, p, b, rp] w wq by rw [← hwq]; exact U0.out.drewN nq)
    have c2 : wq.cell? ⟨g, 2, none⟩ = some (.int .i64 o.b) := by rw [← hwq]; exact cells_of HO.out 2
    have hgs2 : g < wq.heap.size := by rw [← hwq]; exact hgs
    have HO2 := Lib.hid (show wq.heap[g]? = some (.cells #[.int .i64 o.k, .int .i64 o.a, .int .i64 o.b, .int .i64 o.c, .bool o.f] 31 (0, 0)) by rw [← hwq]; exact HO.out)
    rw [hwq]
    clear hwq HT U0 HO HF1 HF2 hff c0 c1 c2 c3 hgs
    have c2 : wq.cell? ⟨g, 2, none⟩ = some (.int .i64 o.b) := cells_of HO2.out 2
    by_cases hn : 1 ≤ o.b ∧ o.b ≤ 1048576
    · obtain ⟨n, hnn⟩ : ∃ n : Nat, o.b = n := ⟨o.b.toNat, by omega⟩
      rw [hnn] at hn c2
      have hn1 : 1 ≤ n := by omega
      have hn2 : n ≤ 1048576 := by omega
      clear hn
      obtain ⟨best, size, hsel⟩ := sel_ex n Bs
      by_cases hbest : best = 0
      · subst hbest
        have HP := Lib.hid (alloc_none T1.out.ar n hn1 hn2 (by
          rcases hsel with ⟨_, h⟩ | ⟨A, c, C, _, _, _, h, _⟩
          · exact h
          · omega))
        have HR := Lib.hid (fun W (h : RM r rp (words Bs) W) => ralloc_none r rp Bs W HWF.out h n hn1 hn2 size hsel)
        clear hsel
        go_wp2_with fail
        refine HP.out.mono ?_
        rintro e w3 ⟨rfl, k3, hk3⟩
        have T3 := Lib.hid (show Two q p b r rp Bs w3 by rw [hk3]; exact T1.out.drewN k3)
        have U3 := Lib.hid (show Upd [q, p, b, rp] w w3 by rw [hk3]; exact U1.out.drewN k3)
        have c2' : w3.cell? ⟨g, 2, none⟩ = some (.int .i64 (n : Int)) := by rw [hk3]; exact c2
        have hgs3 : g < w3.heap.size := by rw [hk3]; exact hgs2
        clear hk3 c2 T1 U1 HO2 hgs2
        go_wp2_with fail
        refine (HR.out _ T3.out.rm).mono ?_
        rintro e w4 ⟨rfl, k4, hk4⟩
        have T4 := Lib.hid (show Two q p b r rp Bs w4 by rw [hk4]; exact T3.out.drewN k4)
        have U4 := Lib.hid (show Upd [q, p, b, rp] w w4 by rw [hk4]; exact U3.out.drewN k4)
        clear hk4
        go_wp2
        go_ret
        exact ⟨rfl, ⟨Bs, rfl, T4.out⟩, U4.out⟩
      · obtain ⟨A, c, C, rfl, hu, hz, hA, hC⟩ : ∃ A c C, Bs = A ++ c :: C ∧ c.us = false ∧ n + 1 ≤ c.sz ∧ (∀ d ∈ A, d.us = false → n + 1 ≤ d.sz → c.sz < d.sz) ∧ ∀ d ∈ C, d.us = false → n + 1 ≤ d.sz → c.sz ≤ d.sz := by
          rcases hsel with ⟨h, _⟩ | ⟨A, c, C, h1, h2, h3, _, _, h4, h5⟩
          · exact absurd h hbest
          · exact ⟨A, c, C, h1, h2, h3, h4, h5⟩
        have HP := Lib.hid (alloc_at T1.out.ar n hn1 hn2 hu hz hA hC)
        have HR := Lib.hid (fun W (h : RM r rp (words (A ++ c :: C)) W) => ralloc_some r rp A C c W HWF.out h n hn1 hn2 hu hz hA hC)
        have HL := Lib.hid (show len (A ++ takeB n c ++ C) = len (A ++ c :: C) by rw [len_append, len_append, len_append, len_cons, takeB_len _ _ hz]; omega)
        have haa : (((1 + len A : Nat) : Int) == ((1 + len A : Nat) : Int)) = true := by simp
        clear hsel hu hz hA hC hbest
        generalize 1 + len A = a at *
        go_wp2_with fail
        refine HP.out.mono ?_
        rintro e w3 ⟨rfl, ha, hu⟩
        have A3 := Lib.hid ha
        have R3 := Lib.hid (T1.out.rm.upd3 hu HNE.out)
        have U3 := Lib.hid (U1.out.trans (hu.mono (T := [q, p, b, rp]) (by simp)))
        have ho3 := (hu.block g hgs2 HGN.out.1).trans HO2.out
        have c2' : w3.cell? ⟨g, 2, none⟩ = some (.int .i64 (n : Int)) := by rw [← hnn]; exact cells_of ho3 2
        have hgs3 := lt_of_block ho3
        clear ha hu ho3 c2 T1 U1 HO2 hgs2
        go_wp2_with fail
        refine (HR.out _ R3.out).mono ?_
        rintro e w4 ⟨rfl, hr, hu⟩
        have T4 := Lib.hid (show Two q p b r rp (A ++ takeB n c ++ C) w4 from ⟨A3.out.upd1 hu HNE.out, hr⟩)
        have U4 := Lib.hid (U3.out.trans (hu.mono (T := [q, p, b, rp]) (by simp)))
        clear hr hu
        go_wp2
        go_ret
        exact ⟨rfl, ⟨_, HL.out, T4.out⟩, U4.out⟩
    · have HP := Lib.hid (arena_alloc q p b Bs wq T1.out.ar o.b)
      have HR := Lib.hid (fun W => ralloc_bad r rp W o.b hn)
      have HN := Lib.hid hn
      clear hn
      go_wp2_with fail
      refine HP.out.mono ?_
      rintro e w3 (⟨_, rfl, rfl⟩ | ⟨h, _⟩ | ⟨h, _⟩)
      · go_wp2_with fail
        refine (HR.out _).mono ?_
        rintro e w4 ⟨rfl, rfl⟩
        go_wp2
        go_ret
        exact ⟨rfl, ⟨Bs, rfl, T1.out⟩, U1.out⟩
      · exact absurd h HN.out
      · exact absurd h HN.out
  -- TAKE
  · have HF1 := Lib.hid (fun W (h : Arena q p b Bs W) => pfits h o.b)
    have HF2 := Lib.hid (fun W (h : RM r rp (words Bs) W) => rfits HWF.out h o.b)
    have hff : ((fitsB Bs o.b != fitsB Bs o.b) : Bool) = false := by simp
    obtain ⟨fb, hfb⟩ : ∃ fb, fitsB Bs o.b = fb := ⟨_, rfl⟩
    rw [hfb] at HF1 HF2 hff
    clear hfb
    go_wp2
    go_quiet ((first | (go_at_call 16; exact Calls.quiet_of (HF1.out _ (HT.out.ar.drewN _))) | (go_at_call 30; exact Calls.quiet_of (HF2.out _ (HT.out.rm.drewN _)))))
    obtain ⟨wq, hwq⟩ : ∃ wq, wa.drewN nq = wq := ⟨_, rfl⟩
    have T1 := Lib.hid (show Two q p b r rp Bs wq by rw [← hwq]; exact HT.out.drewN nq)
    have U1 := Lib.hid (show Upd [q, p, b, rp] w wq by rw [← hwq]; exact U0.out.drewN nq)
    have c2 : wq.cell? ⟨g, 2, none⟩ = some (.int .i64 o.b) := by rw [← hwq]; exact cells_of HO.out 2
    have hgs2 : g < wq.heap.size := by rw [← hwq]; exact hgs
    have HO2 := Lib.hid (show wq.heap[g]? = some (.cells #[.int .i64 o.k, .int .i64 o.a, .int .i64 o.b, .int .i64 o.c, .bool o.f] 31 (0, 0)) by rw [← hwq]; exact HO.out)
    rw [hwq]
    clear hwq HT U0 HO HF1 HF2 hff c0 c1 c2 c3 hgs
    have c2 : wq.cell? ⟨g, 2, none⟩ = some (.int .i64 o.b) := cells_of HO2.out 2
    by_cases hn : 1 ≤ o.b ∧ o.b ≤ 1048576
    · obtain ⟨n, hnn⟩ : ∃ n : Nat, o.b = n := ⟨o.b.toNat, by omega⟩
      rw [hnn] at hn c2
      have hn1 : 1 ≤ n := by omega
      have hn2 : n ≤ 1048576 := by omega
      clear hn
      obtain ⟨best, size, hsel⟩ := sel_ex n Bs
      by_cases hbest : best = 0
      · subst hbest
        have HP := Lib.hid (alloc_none T1.out.ar n hn1 hn2 (by
          rcases hsel with ⟨_, h⟩ | ⟨A, c, C, _, _, _, h, _⟩
          · exact h
          · omega))
        have HR := Lib.hid (fun W (h : RM r rp (words Bs) W) => ralloc_none r rp Bs W HWF.out h n hn1 hn2 size hsel)
        clear hsel
        go_wp2_with fail
        refine HP.out.mono ?_
        rintro e w3 ⟨rfl, k3, hk3⟩
        have T3 := Lib.hid (show Two q p b r rp Bs w3 by rw [hk3]; exact T1.out.drewN k3)
        have U3 := Lib.hid (show Upd [q, p, b, rp] w w3 by rw [hk3]; exact U1.out.drewN k3)
        have c2' : w3.cell? ⟨g, 2, none⟩ = some (.int .i64 (n : Int)) := by rw [hk3]; exact c2
        have hgs3 : g < w3.heap.size := by rw [hk3]; exact hgs2
        clear hk3 c2 T1 U1 HO2 hgs2
        go_wp2_with fail
        refine (HR.out _ T3.out.rm).mono ?_
        rintro e w4 ⟨rfl, k4, hk4⟩
        have T4 := Lib.hid (show Two q p b r rp Bs w4 by rw [hk4]; exact T3.out.drewN k4)
        have U4 := Lib.hid (show Upd [q, p, b, rp] w w4 by rw [hk4]; exact U3.out.drewN k4)
        clear hk4
        go_wp2
        go_ret
        exact ⟨rfl, ⟨Bs, rfl, T4.out⟩, U4.out⟩
      · obtain ⟨A, c, C, rfl, hu, hz, hA, hC⟩ : ∃ A c C, Bs = A ++ c :: C ∧ c.us = false ∧ n + 1 ≤ c.sz ∧ (∀ d ∈ A, d.us = false → n + 1 ≤ d.sz → c.sz < d.sz) ∧ ∀ d ∈ C, d.us = false → n + 1 ≤ d.sz → c.sz ≤ d.sz := by
          rcases hsel with ⟨h, _⟩ | ⟨A, c, C, h1, h2, h3, _, _, h4, h5⟩
          · exact absurd h hbest
          · exact ⟨A, c, C, h1, h2, h3, h4, h5⟩
        have HP := Lib.hid (alloc_at T1.out.ar n hn1 hn2 hu hz hA hC)
        have HR := Lib.hid (fun W (h : RM r rp (words (A ++ c :: C)) W) => ralloc_some r rp A C c W HWF.out h n hn1 hn2 hu hz hA hC)
        have HL := Lib.hid (show len (A ++ takeB n c ++ C) = len (A ++ c :: C) by rw [len_append, len_append, len_append, len_cons, takeB_len _ _ hz]; omega)
        have haa : (((1 + len A : Nat) : Int) == ((1 + len A : Nat) : Int)) = true := by simp
        clear hsel hu hz hA hC hbest
        generalize 1 + len A = a at *
        go_wp2_with fail
        refine HP.out.mono ?_
        rintro e w3 ⟨rfl, ha, hu⟩
        have A3 := Lib.hid ha
        have R3 := Lib.hid (T1.out.rm.upd3 hu HNE.out)
        have U3 := Lib.hid (U1.out.trans (hu.mono (T := [q, p, b, rp]) (by simp)))
        have ho3 := (hu.block g hgs2 HGN.out.1).trans HO2.out
        have c2' : w3.cell? ⟨g, 2, none⟩ = some (.int .i64 (n : Int)) := by rw [← hnn]; exact cells_of ho3 2
        have hgs3 := lt_of_block ho3
        clear ha hu ho3 c2 T1 U1 HO2 hgs2
        go_wp2_with fail
        refine (HR.out _ R3.out).mono ?_
        rintro e w4 ⟨rfl, hr, hu⟩
        have T4 := Lib.hid (show Two q p b r rp (A ++ takeB n c ++ C) w4 from ⟨A3.out.upd1 hu HNE.out, hr⟩)
        have U4 := Lib.hid (U3.out.trans (hu.mono (T := [q, p, b, rp]) (by simp)))
        clear hr hu
        go_wp2
        go_ret
        exact ⟨rfl, ⟨_, HL.out, T4.out⟩, U4.out⟩
    · have HP := Lib.hid (arena_alloc q p b Bs wq T1.out.ar o.b)
      have HR := Lib.hid (fun W => ralloc_bad r rp W o.b hn)
      have HN := Lib.hid hn
      clear hn
      go_wp2_with fail
      refine HP.out.mono ?_
      rintro e w3 (⟨_, rfl, rfl⟩ | ⟨h, _⟩ | ⟨h, _⟩)
      · go_wp2_with fail
        refine (HR.out _).mono ?_
        rintro e w4 ⟨rfl, rfl⟩
        go_wp2
        go_ret
        exact ⟨rfl, ⟨Bs, rfl, T1.out⟩, U1.out⟩
      · exact absurd h HN.out
      · exact absurd h HN.out
  -- FREE
  · by_cases hx : o.a ∈ usedL 1 Bs
    · obtain ⟨pre, c, post, rfl, hu, hxe⟩ := mem_usedL hx
      have HP := Lib.hid (fun W (h : Arena q p b (pre ++ c :: post) W) => pfree h hu)
      have HR := Lib.hid (fun F W (hF : mg [] (pre ++ freeBk c.sz :: post) = F) (h : RM r rp (words (pre ++ c :: post)) W) => rfree_used r rp pre post c F W HWF.out h hu hF)
      rw [hxe] at c1
      clear hx hu
      generalize 1 + len pre = a at *
      go_wp2
      go_region_held3 (fun w' => w'.cell? ⟨g, 1, none⟩ = some (.int .i64 (a : Int)) ∧ g < w'.heap.size)
        (first
          | exact ⟨c1, hgs⟩
          | exact ⟨c1', hgs3⟩
          | exact ⟨c1'', hgs4⟩)
        (first
          | (go_at_call 19
             refine (HP.out _ (HT.out.ar.drewN 1)).mono ?_
             rintro e w3 ⟨rfl, ⟨F, ha, hF, hFl⟩, hup⟩
             have A3 := Lib.hid ha
             have HF := Lib.hid hF
             have HFL := Lib.hid hFl
             have R3 := Lib.hid ((HT.out.rm.drewN 1).upd3 hup HNE.out)
             have U3 := Lib.hid ((U0.out.drewN 1).trans (hup.mono (T := [q, p, b, rp]) (by simp)))
             have ho3 := (hup.block g hgs HGN.out.1).trans HO.out
             have HO3 := Lib.hid ho3
             have c1' : w3.cell? ⟨g, 1, none⟩ = some (.int .i64 (a : Int)) := (by rw [← hxe]; exact cells_of ho3 1)
             have hgs3 := lt_of_block ho3
             clear ha hF hFl hup ho3)
          | (go_at_call 32
             refine (HR.out F _ HF.out R3.out).mono ?_
             rintro e w4 ⟨rfl, hr4, hup4⟩
             have ho4 := (hup4.block g hgs3 (by rw [List.mem_singleton]; exact HGN.out.2)).trans HO3.out
             have c1'' : w4.cell? ⟨g, 1, none⟩ = some (.int .i64 (a : Int)) := (by rw [← hxe]; exact cells_of ho4 1)
             have hgs4 := lt_of_block ho4))
      all_goals
        have T4 := Lib.hid (show Two q p b r rp F w4 from ⟨A3.out.upd1 hup4 HNE.out, hr4⟩)
        have U4 := Lib.hid (U3.out.trans (hup4.mono (T := [q, p, b, rp]) (by simp)))
        clear hr4 hup4
        go_wp2
        go_ret
        exact ⟨rfl, ⟨F, HFL.out, T4.out⟩, U4.out⟩
    · have HP := Lib.hid (fun W (h : Arena q p b Bs W) => (arena_free_none h o.a (not_used hx)).mono fun e w' h => And.intro h.1 (⟨0, h.2⟩ : ∃ k, w' = W.drewN k))
      have HR := Lib.hid (fun W (h : RM r rp (words Bs) W) => (rfree_none r rp Bs W HWF.out h o.a hx).mono fun e w' h => And.intro h.1 (⟨0, h.2⟩ : ∃ k, w' = W.drewN k))
      clear hx
      go_wp2
      go_quiet ((first | (go_at_call 19; exact Calls.quiet_of (HP.out _ (HT.out.ar.drewN _))) | (go_at_call 32; exact Calls.quiet_of (HR.out _ (HT.out.rm.drewN _)))))
      have T3 := Lib.hid (HT.out.drewN nq)
      have U3 := Lib.hid (U0.out.drewN nq)
      go_wp2
      go_ret
      exact ⟨rfl, ⟨_, rfl, T3.out⟩, U3.out⟩
  -- FREE
  · by_cases hx : o.a ∈ usedL 1 Bs
    · obtain ⟨pre, c, post, rfl, hu, hxe⟩ := mem_usedL hx
      have HP := Lib.hid (fun W (h : Arena q p b (pre ++ c :: post) W) => pfree h hu)
      have HR := Lib.hid (fun F W (hF : mg [] (pre ++ freeBk c.sz :: post) = F) (h : RM r rp (words (pre ++ c :: post)) W) => rfree_used r rp pre post c F W HWF.out h hu hF)
      rw [hxe] at c1
      clear hx hu
      generalize 1 + len pre = a at *
      go_wp2
      go_region_held3 (fun w' => w'.cell? ⟨g, 1, none⟩ = some (.int .i64 (a : Int)) ∧ g < w'.heap.size)
        (first
          | exact ⟨c1, hgs⟩
          | exact ⟨c1', hgs3⟩
          | exact ⟨c1'', hgs4⟩)
        (first
          | (go_at_call 19
             refine (HP.out _ (HT.out.ar.drewN 1)).mono ?_
             rintro e w3 ⟨rfl, ⟨F, ha, hF, hFl⟩, hup⟩
             have A3 := Lib.hid ha
             have HF := Lib.hid hF
             have HFL := Lib.hid hFl
             have R3 := Lib.hid ((HT.out.rm.drewN 1).upd3 hup HNE.out)
             have U3 := Lib.hid ((U0.out.drewN 1).trans (hup.mono (T := [q, p, b, rp]) (by simp)))
             have ho3 := (hup.block g hgs HGN.out.1).trans HO.out
             have HO3 := Lib.hid ho3
             have c1' : w3.cell? ⟨g, 1, none⟩ = some (.int .i64 (a : Int)) := (by rw [← hxe]; exact cells_of ho3 1)
             have hgs3 := lt_of_block ho3
             clear ha hF hFl hup ho3)
          | (go_at_call 32
             refine (HR.out F _ HF.out R3.out).mono ?_
             rintro e w4 ⟨rfl, hr4, hup4⟩
             have ho4 := (hup4.block g hgs3 (by rw [List.mem_singleton]; exact HGN.out.2)).trans HO3.out
             have c1'' : w4.cell? ⟨g, 1, none⟩ = some (.int .i64 (a : Int)) := (by rw [← hxe]; exact cells_of ho4 1)
             have hgs4 := lt_of_block ho4))
      all_goals
        have T4 := Lib.hid (show Two q p b r rp F w4 from ⟨A3.out.upd1 hup4 HNE.out, hr4⟩)
        have U4 := Lib.hid (U3.out.trans (hup4.mono (T := [q, p, b, rp]) (by simp)))
        clear hr4 hup4
        go_wp2
        go_ret
        exact ⟨rfl, ⟨F, HFL.out, T4.out⟩, U4.out⟩
    · have HP := Lib.hid (fun W (h : Arena q p b Bs W) => (arena_free_none h o.a (not_used hx)).mono fun e w' h => And.intro h.1 (⟨0, h.2⟩ : ∃ k, w' = W.drewN k))
      have HR := Lib.hid (fun W (h : RM r rp (words Bs) W) => (rfree_none r rp Bs W HWF.out h o.a hx).mono fun e w' h => And.intro h.1 (⟨0, h.2⟩ : ∃ k, w' = W.drewN k))
      clear hx
      go_wp2
      go_quiet ((first | (go_at_call 19; exact Calls.quiet_of (HP.out _ (HT.out.ar.drewN _))) | (go_at_call 32; exact Calls.quiet_of (HR.out _ (HT.out.rm.drewN _)))))
      have T3 := Lib.hid (HT.out.drewN nq)
      have U3 := Lib.hid (U0.out.drewN nq)
      go_wp2
      go_ret
      exact ⟨rfl, ⟨_, rfl, T3.out⟩, U3.out⟩
  -- WRITE
  · by_cases hx : o.a ∈ usedL 1 Bs
    · obtain ⟨pre, c, post, rfl, hu, hxe⟩ := mem_usedL hx
      by_cases hi : 0 ≤ o.b ∧ o.b < (c.body.length : Int)
      · obtain ⟨j, hj⟩ : ∃ j : Nat, o.b = j := ⟨o.b.toNat, by omega⟩
        have hjl : j < c.body.length := by omega
        have HP := Lib.hid (fun W (h : Arena q p b (pre ++ c :: post) W) => arena_write h hu j o.c hjl)
        have HR := Lib.hid (fun W (h : RM r rp (words (pre ++ c :: post)) W) => rwrite_ok (w := W) HWF.out h hu j o.c hjl)
        have HL := Lib.hid (show len (pre ++ putW c j o.c :: post) = len (pre ++ c :: post) by rw [len_append, len_append, len_cons, len_cons, putW_sz])
        rw [hxe] at c1
        rw [hj] at c2
        clear hx hu hi hjl
        generalize 1 + len pre = a at *
        go_wp2
        go_region_held3 (fun w' => w'.cell? ⟨g, 1, none⟩ = some (.int .i64 (a : Int)) ∧ w'.cell? ⟨g, 2, none⟩ = some (.int .i64 (j : Int)) ∧ w'.cell? ⟨g, 3, none⟩ = some (.int .i64 o.c) ∧ g < w'.heap.size)
          (first
            | exact ⟨c1, c2, c3, hgs⟩
            | exact ⟨c1', c2', c3', hgs3⟩
            | exact ⟨c1'', c2'', c3'', hgs4⟩)
          (first
            | (go_at_call 20
               refine (HP.out _ (HT.out.ar.drewN 1)).mono ?_
               rintro e w3 ⟨rfl, ha, hup0⟩
               have hup := hup0.mono (T := [q, p, b]) (by simp)
               have A3 := Lib.hid ha
               have R3 := Lib.hid ((HT.out.rm.drewN 1).upd3 hup HNE.out)
               have U3 := Lib.hid ((U0.out.drewN 1).trans (hup.mono (T := [q, p, b, rp]) (by simp)))
               have ho3 := (hup.block g hgs HGN.out.1).trans HO.out
               have HO3 := Lib.hid ho3
               have c1' : w3.cell? ⟨g, 1, none⟩ = some (.int .i64 (a : Int)) := (by rw [← hxe]; exact cells_of ho3 1)
               have c2' : w3.cell? ⟨g, 2, none⟩ = some (.int .i64 (j : Int)) := (by rw [← hj]; exact cells_of ho3 2)
               have c3' : w3.cell? ⟨g, 3, none⟩ = some (.int .i64 o.c) := cells_of ho3 3
               have hgs3 := lt_of_block ho3
               clear ha hup hup0 ho3)
            | (go_at_call 33
               refine (HR.out _ R3.out).mono ?_
               rintro e w4 ⟨rfl, hr4, hup4⟩
               have ho4 := (hup4.block g hgs3 (by rw [List.mem_singleton]; exact HGN.out.2)).trans HO3.out
               have c1'' : w4.cell? ⟨g, 1, none⟩ = some (.int .i64 (a : Int)) := (by rw [← hxe]; exact cells_of ho4 1)
               have c2'' : w4.cell? ⟨g, 2, none⟩ = some (.int .i64 (j : Int)) := (by rw [← hj]; exact cells_of ho4 2)
               have c3'' : w4.cell? ⟨g, 3, none⟩ = some (.int .i64 o.c) := cells_of ho4 3
               have hgs4 := lt_of_block ho4))
        all_goals
          have T4 := Lib.hid (show Two q p b r rp (pre ++ putW c j o.c :: post) w4 from ⟨A3.out.upd1 hup4 HNE.out, hr4⟩)
          have U4 := Lib.hid (U3.out.trans (hup4.mono (T := [q, p, b, rp]) (by simp)))
          clear hr4 hup4
          go_wp2
          go_ret
          exact ⟨rfl, ⟨_, HL.out, T4.out⟩, U4.out⟩
      · have HP := Lib.hid (fun W (h : Arena q p b (pre ++ c :: post) W) => arena_write_bad h hu o.b o.c hi)
        have HR := Lib.hid (fun W (h : RM r rp (words (pre ++ c :: post)) W) => (rwrite_no ((1 + len pre : Nat) : Int) o.b o.c 1 0 (by decide) (rread_bad (w := W) HWF.out h hu o.b hi)).mono fun e w' h => And.intro h.1 (⟨0, h.2⟩ : ∃ k, w' = W.drewN k))
        rw [hxe] at c1
        clear hx hu hi
        generalize 1 + len pre = a at *
        go_wp2
        go_quiet ((first | (go_at_call 20; exact Calls.quiet_of (HP.out _ (HT.out.ar.drewN _))) | (go_at_call 33; exact Calls.quiet_of (HR.out _ (HT.out.rm.drewN _)))))
        have T3 := Lib.hid (HT.out.drewN nq)
        have U3 := Lib.hid (U0.out.drewN nq)
        go_wp2
        go_ret
        exact ⟨rfl, ⟨_, rfl, T3.out⟩, U3.out⟩
    · have HP := Lib.hid (fun W (h : Arena q p b Bs W) => (arena_write_none h o.a o.b o.c (not_used hx)).mono fun e w' h => And.intro h.1 (⟨0, h.2⟩ : ∃ k, w' = W.drewN k))
      have HR := Lib.hid (fun W (h : RM r rp (words Bs) W) => (rwrite_no o.a o.b o.c 24 0 (by decide) (rread_none (w := W) HWF.out h o.a o.b hx)).mono fun e w' h => And.intro h.1 (⟨0, h.2⟩ : ∃ k, w' = W.drewN k))
      clear hx
      go_wp2
      go_quiet ((first | (go_at_call 20; exact Calls.quiet_of (HP.out _ (HT.out.ar.drewN _))) | (go_at_call 33; exact Calls.quiet_of (HR.out _ (HT.out.rm.drewN _)))))
      have T3 := Lib.hid (HT.out.drewN nq)
      have U3 := Lib.hid (U0.out.drewN nq)
      go_wp2
      go_ret
      exact ⟨rfl, ⟨_, rfl, T3.out⟩, U3.out⟩
  -- READ
  · by_cases hx : o.a ∈ usedL 1 Bs
    · obtain ⟨pre, c, post, rfl, hu, hxe⟩ := mem_usedL hx
      by_cases hi : 0 ≤ o.b ∧ o.b < (c.body.length : Int)
      · obtain ⟨j, hj⟩ : ∃ j : Nat, o.b = j := ⟨o.b.toNat, by omega⟩
        obtain ⟨v, hv⟩ : ∃ v, c.body[j]? = some v := ⟨_, List.getElem?_eq_getElem (by omega)⟩
        have HP := Lib.hid (arena_read HT.out.ar hu j v hv)
        have HR := Lib.hid (fun W (h : RM r rp (words (pre ++ c :: post)) W) => rread_ok (w := W) HWF.out h hu j v hv)
        have haa : ((v : Int) == (v : Int)) = true := by simp
        rw [hxe] at c1
        rw [hj] at c2
        clear hx hu hi hv
        generalize 1 + len pre = a at *
        go_wp2_with fail
        refine HP.out.mono ?_
        rintro e w3 ⟨rfl, k3, hk3⟩
        have T3 := Lib.hid (show Two q p b r rp (pre ++ c :: post) w3 by rw [hk3]; exact HT.out.drewN k3)
        have U3 := Lib.hid (show Upd [q, p, b, rp] w w3 by rw [hk3]; exact U0.out.drewN k3)
        have c1' : w3.cell? ⟨g, 1, none⟩ = some (.int .i64 (a : Int)) := by rw [hk3]; exact c1
        have c2' : w3.cell? ⟨g, 2, none⟩ = some (.int .i64 (j : Int)) := by rw [hk3]; exact c2
        have hgs3 : g < w3.heap.size := by rw [hk3]; exact hgs
        clear hk3 c0 c1 c2 c3 HT U0 HO hgs
        go_wp2_with fail
        refine (HR.out _ T3.out.rm).mono ?_
        rintro e w' ⟨rfl, rfl⟩
        go_wp2
        go_ret
        exact ⟨rfl, ⟨_, rfl, T3.out⟩, U3.out⟩
      · have HP := Lib.hid (arena_read_bad HT.out.ar hu o.b hi)
        have HR := Lib.hid (fun W (h : RM r rp (words (pre ++ c :: post)) W) => rread_bad (w := W) HWF.out h hu o.b hi)
        rw [hxe] at c1
        clear hx hu hi
        generalize 1 + len pre = a at *
        go_wp2_with fail
        refine HP.out.mono ?_
        rintro e w3 ⟨rfl, k3, hk3⟩
        have T3 := Lib.hid (show Two q p b r rp (pre ++ c :: post) w3 by rw [hk3]; exact HT.out.drewN k3)
        have U3 := Lib.hid (show Upd [q, p, b, rp] w w3 by rw [hk3]; exact U0.out.drewN k3)
        have c1' : w3.cell? ⟨g, 1, none⟩ = some (.int .i64 (a : Int)) := by rw [hk3]; exact c1
        have c2' : w3.cell? ⟨g, 2, none⟩ = some (.int .i64 o.b) := by rw [hk3]; exact c2
        have hgs3 : g < w3.heap.size := by rw [hk3]; exact hgs
        clear hk3 c0 c1 c2 c3 HT U0 HO hgs
        go_wp2_with fail
        refine (HR.out _ T3.out.rm).mono ?_
        rintro e w' ⟨rfl, rfl⟩
        go_wp2
        go_ret
        exact ⟨rfl, ⟨_, rfl, T3.out⟩, U3.out⟩
    · have HP := Lib.hid (arena_read_none HT.out.ar o.a o.b (not_used hx))
      have HR := Lib.hid (rread_none HWF.out HT.out.rm o.a o.b hx)
      clear hx
      go_wp2_with fail
      refine HP.out.mono ?_
      rintro e w' ⟨rfl, rfl⟩
      go_wp2_with fail
      refine HR.out.mono ?_
      rintro e w' ⟨rfl, rfl⟩
      go_wp2
      go_ret
      exact ⟨rfl, ⟨Bs, rfl, HT.out⟩, U0.out⟩
  -- SIZE
  · by_cases hx : o.a ∈ usedL 1 Bs
    · obtain ⟨pre, c, post, rfl, hu, hxe⟩ := mem_usedL hx
      have HP := Lib.hid (arena_size HT.out.ar hu)
      have HR := Lib.hid (fun W (h : RM r rp (words (pre ++ c :: post)) W) => rsize_used (w := W) HWF.out h hu)
      have haa : ((c.body.length : Int) == (c.body.length : Int)) = true := by simp
      rw [hxe] at c1
      clear hx hu
      generalize c.body.length = bl at *
      generalize 1 + len pre = a at *
      go_wp2_with fail
      refine HP.out.mono ?_
      rintro e w3 ⟨rfl, k3, hk3⟩
      have T3 := Lib.hid (show Two q p b r rp (pre ++ c :: post) w3 by rw [hk3]; exact HT.out.drewN k3)
      have U3 := Lib.hid (show Upd [q, p, b, rp] w w3 by rw [hk3]; exact U0.out.drewN k3)
      have c1' : w3.cell? ⟨g, 1, none⟩ = some (.int .i64 (a : Int)) := by rw [hk3]; exact c1
      have hgs3 : g < w3.heap.size := by rw [hk3]; exact hgs
      clear hk3 c0 c1 c2 c3 HT U0 HO hgs
      go_wp2_with fail
      refine (HR.out _ T3.out.rm).mono ?_
      rintro e w' ⟨rfl, rfl⟩
      go_wp2
      go_ret
      exact ⟨rfl, ⟨_, rfl, T3.out⟩, U3.out⟩
    · have HP := Lib.hid (arena_size_none HT.out.ar o.a (not_used hx))
      have HR := Lib.hid (rsize_none HWF.out HT.out.rm o.a hx)
      clear hx
      go_wp2_with fail
      refine HP.out.mono ?_
      rintro e w' ⟨rfl, rfl⟩
      go_wp2_with fail
      refine HR.out.mono ?_
      rintro e w' ⟨rfl, rfl⟩
      go_wp2
      go_ret
      exact ⟨rfl, ⟨Bs, rfl, HT.out⟩, U0.out⟩
end Go.Proofs.Ytmgpimibnogcaaa
