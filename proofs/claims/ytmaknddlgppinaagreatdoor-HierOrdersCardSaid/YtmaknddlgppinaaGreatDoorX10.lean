/-
  CUT and joined from the texts of this seat: D8
-/
import Derived.Test.YtmaknddlgppinaaGreatDoorX09
set_option linter.unusedVariables false
set_option linter.unusedSimpArgs false
/-! D8 -/
namespace Go.Proofs.YtmaknddlgppinaaGreatDoor
open Go.RowKit

/-- The world at the head of the loop. -/
structure MS (w : World) (t : List UInt8) (z S M P : Nat) (l0 : ByteArray) (done : List Ty) (v : Value) (wx : World) : Prop where
  res : wx.heap[w.heap.size]? = some (.cells #[.slice none 0 0, .int .i64 0, .string ⟨#[]⟩, .bool false] 209 (0, 0))
  rest : wx.heap[S]? = some (.cells #[.string (l0.extract (pieceL (L l0)).2.2 l0.size)] 9 (0, 0))
  m : wx.heap[M]? = some (.cells #[v, .int .i64 0, .string ⟨#[]⟩, .bool false] 209 (0, 0))
  p : wx.heap[P]? = some (.cells #[.int .i64 (pieceL (L l0)).1, .int .i64 (pieceL (L l0)).2.1.1, .string (mkB (pieceL (L l0)).2.1.2)] 221 (0, 0))
  own : wx.ownsRow (P + 1) 31 2 v (done.take 16).length (tcells (done.take 16))
  loop : Loop t (L l0) done
  len : done.length + l0.size ≤ z
  bel : Below w.heap.size w wx
theorem MS.sizes {w : World} {t : List UInt8} {z S M P : Nat} {l0 : ByteArray} {done : List Ty} {v : Value} {wx : World} (h : MS w t z S M P l0 done v wx) : w.heap.size < wx.heap.size ∧ S < wx.heap.size ∧ M < wx.heap.size ∧ P < wx.heap.size :=
  ⟨lt_of_block h.res, lt_of_block h.rest, lt_of_block h.m, lt_of_block h.p⟩
theorem own_but {b : Nat} {w w' : World} {base : Nat} {e : TypeId} {size : Nat} {v : Value} {n : Nat} {xs : List Value} (own : w.ownsRow base e size v n xs) (h : But b w w') (hb : b < base) : w'.ownsRow base e size v n xs :=
  own.kept (row := some b) ⟨h.os, h.tape, h.output, h.size, fun k hk hne => h.block k hk (fun e => hne (by rw [e]))⟩ (by
    cases hv : v.ownBlock with
    | none => exact .inl rfl
    | some g =>
      refine .inr (fun e => ?_)
      have h1 := (own.lt g hv).1
      have h2 : g = b := by simpa using e
      omega)
theorem grown_keep {w w' : World} {base : Nat} {e : TypeId} {size : Nat} {v : Value} {n : Nat} {xs : List Value} {o : Obj} {q : Nat} (hg : w.grownBy w' v.ownBlock) (own : w.ownsRow base e size v n xs) (hq : q < base) (hx : w.heap[q]? = some o) : w'.heap[q]? = some o :=
  (hg.block q (lt_of_block hx) (fun e => by have := (own.lt q e.symm).1; omega)).trans hx
/-- The world within a round, behind the append. -/
structure MD (w : World) (S M P : Nat) (l0 : ByteArray) (done : List Ty) (v : Value) (wx : World) : Prop where
  res : wx.heap[w.heap.size]? = some (.cells #[.slice none 0 0, .int .i64 0, .string ⟨#[]⟩, .bool false] 209 (0, 0))
  rest : wx.heap[S]? = some (.cells #[.string (l0.extract (pieceL (L l0)).2.2 l0.size)] 9 (0, 0))
  m : wx.heap[M]? = some (.cells #[v, .int .i64 0, .string ⟨#[]⟩, .bool false] 209 (0, 0))
  p : wx.heap[P]? = some (.cells #[.int .i64 (pieceL (L l0)).1, .int .i64 (pieceL (L l0)).2.1.1, .string (mkB (pieceL (L l0)).2.1.2)] 221 (0, 0))
  own : wx.ownsRow (P + 1) 31 2 v (done.take 16).length (tcells (done.take 16))
  bel : Below w.heap.size w wx
theorem MS.more {w : World} {t : List UInt8} {z S M P : Nat} {l0 : ByteArray} {done : List Ty} {v : Value} {wx : World} (h : MS w t z S M P l0 done v wx) (q : Ty) (h16 : 16 ≤ done.length) : MD w S M P l0 (done ++ [q]) v wx :=
  ⟨h.res, h.rest, h.m, h.p, by rw [List.take_append_of_le_length h16]; exact h.own, h.bel⟩
theorem MS.grow {w : World} {t : List UInt8} {z S M P : Nat} {l0 : ByteArray} {done : List Ty} {v v' : Value} {wx w5 : World} {o : Obj} (h : MS w t z S M P l0 done v wx) (q : Ty) (h16 : done.length < 16)
    (hR : w.heap.size < S) (hS : S < M) (hM : M < P)
    (own : w5.ownsRow (P + 1) 31 2 v' ((done.take 16).length + 1) (tcells (done.take 16) ++ [.int .i64 q.1, .string (mkB q.2)])) (hg : (wx.alloc o).grownBy w5 v.ownBlock) :
    MD w S M P l0 (done ++ [q]) v' (w5.setCell ⟨M, 0, none⟩ v') := by
  have ho := h.own.alloc o
  have k := fun {x : Obj} (b : Nat) (hb : b < P + 1) (hx : wx.heap[b]? = some x) => grown_keep hg ho hb (heap_alloc_lt hx)
  have ht : (done ++ [q]).take 16 = done.take 16 ++ [q] := by rw [List.take_of_length_le (by simp; omega), List.take_of_length_le (by omega)]
  refine ⟨heap_setCell_ne (by simp; omega) (k _ (by omega) h.res), heap_setCell_ne (by simp; omega) (k _ (by omega) h.rest), cells_setCell (k _ (by omega) h.m), heap_setCell_ne (by simp; omega) (k _ (by omega) h.p), ?_, ?_⟩
  · rw [ht, tcells_append, tcells_one, List.length_append]
    exact ownsRow_setCell_below own (by show M < P + 1; omega) _
  · refine Below.setCell ?_ (by show w.heap.size ≤ M; omega) _
    exact (h.bel.alloc (by have := h.bel.size; omega) o).grown hg (by have := h.bel.size; simp; omega) (fun k hk => by have := (ho.lt k hk).1; omega)
theorem MD.step {w : World} {t : List UInt8} {z S M P : Nat} {l0 r : ByteArray} {done : List Ty} {v : Value} {wx w7 : World} (h : MD w S M P l0 done v wx)
    (hR : w.heap.size < S) (hS : S < M) (hM : M < P) (hbt : But S wx w7) (h7 : w7.heap[S]? = some (.cells #[.string (r.extract (pieceL (L r)).2.2 r.size)] 9 (0, 0)))
    (hl : Loop t (L r) done) (hlen : done.length + r.size ≤ z) :
    MS w t z S M P r done v (((w7.setCell ⟨P, 0, none⟩ (.int .i64 (pieceL (L r)).1)).setCell ⟨P, 1, none⟩ (.int .i64 (pieceL (L r)).2.1.1)).setCell ⟨P, 2, none⟩ (.string (mkB (pieceL (L r)).2.1.2))) := by
  have hB : Below w.heap.size w w7 := h.bel.trans (hbt.below (B := w.heap.size) (by omega) (by have := h.bel.size; omega))
  have hs7 := hB.size
  have s3 := fun {x : Obj} (b : Nat) (hb : b ≠ P) (hx : w7.heap[b]? = some x) (u0 u1 u2 : Value) =>
    heap_setCell_ne (p := ⟨P, 2, none⟩) (u := u2) hb (heap_setCell_ne (p := ⟨P, 1, none⟩) (u := u1) hb (heap_setCell_ne (p := ⟨P, 0, none⟩) (u := u0) hb hx))
  refine ⟨s3 _ (by omega) (hbt.keep (by omega) h.res) _ _ _, s3 _ (by omega) h7 _ _ _, s3 _ (by omega) (hbt.keep (by omega) h.m) _ _ _, cells_setCell (cells_setCell (cells_setCell (hbt.keep (by omega) h.p))), ?_, hl, hlen, ?_⟩
  · exact ownsRow_setCell_below (ownsRow_setCell_below (ownsRow_setCell_below (own_but h.own hbt (by omega)) (by show P < P + 1; omega) _) (by show P < P + 1; omega) _) (by show P < P + 1; omega) _
  · exact ((hB.setCell (by show w.heap.size ≤ P; omega) _).setCell (by show w.heap.size ≤ P; omega) _).setCell (by show w.heap.size ≤ P; omega) _
theorem MS.mid {w : World} {t : List UInt8} {z S M P : Nat} {l0 : ByteArray} {done : List Ty} {v : Value} {wx : World} (h : MS w t z S M P l0 done v wx) : MD w S M P l0 done v wx :=
  ⟨h.res, h.rest, h.m, h.p, h.own, h.bel⟩
theorem MD.go {w : World} {S M P : Nat} {l0 r : ByteArray} {done : List Ty} {v : Value} {wx w7 : World} (h : MD w S M P l0 done v wx)
    (hR : w.heap.size < S) (hS : S < M) (hM : M < P) (hbt : But S wx w7) (h7 : w7.heap[S]? = some (.cells #[.string (r.extract (pieceL (L r)).2.2 r.size)] 9 (0, 0))) :
    MD w S M P r done v (((w7.setCell ⟨P, 0, none⟩ (.int .i64 (pieceL (L r)).1)).setCell ⟨P, 1, none⟩ (.int .i64 (pieceL (L r)).2.1.1)).setCell ⟨P, 2, none⟩ (.string (mkB (pieceL (L r)).2.1.2))) := by
  have hB : Below w.heap.size w w7 := h.bel.trans (hbt.below (B := w.heap.size) (by omega) (by have := h.bel.size; omega))
  have hs7 := hB.size
  have s3 := fun {x : Obj} (b : Nat) (hb : b ≠ P) (hx : w7.heap[b]? = some x) (u0 u1 u2 : Value) =>
    heap_setCell_ne (p := ⟨P, 2, none⟩) (u := u2) hb (heap_setCell_ne (p := ⟨P, 1, none⟩) (u := u1) hb (heap_setCell_ne (p := ⟨P, 0, none⟩) (u := u0) hb hx))
  refine ⟨s3 _ (by omega) (hbt.keep (by omega) h.res) _ _ _, s3 _ (by omega) h7 _ _ _, s3 _ (by omega) (hbt.keep (by omega) h.m) _ _ _, cells_setCell (cells_setCell (cells_setCell (hbt.keep (by omega) h.p))), ?_, ?_⟩
  · exact ownsRow_setCell_below (ownsRow_setCell_below (ownsRow_setCell_below (own_but h.own hbt (by omega)) (by show P < P + 1; omega) _) (by show P < P + 1; omega) _) (by show P < P + 1; omega) _
  · exact ((hB.setCell (by show w.heap.size ≤ P; omega) _).setCell (by show w.heap.size ≤ P; omega) _).setCell (by show w.heap.size ≤ P; omega) _
/-- The world behind the line that sets what is returned. -/
structure ME (w : World) (S M P : Nat) (r : ByteArray) (done : List Ty) (v a b c : Value) (wx : World) : Prop where
  res : wx.heap[w.heap.size]? = some (.cells #[.slice none 0 0, .int .i64 0, .string ⟨#[]⟩, .bool false] 209 (0, 0))
  rest : wx.heap[S]? = some (.cells #[.string (r.extract (pieceL (L r)).2.2 r.size)] 9 (0, 0))
  m : wx.heap[M]? = some (.cells #[v, a, b, c] 209 (0, 0))
  p : wx.heap[P]? = some (.cells #[.int .i64 (pieceL (L r)).1, .int .i64 (pieceL (L r)).2.1.1, .string (mkB (pieceL (L r)).2.1.2)] 221 (0, 0))
  own : wx.ownsRow (P + 1) 31 2 v (done.take 16).length (tcells (done.take 16))
  bel : Below w.heap.size w wx
theorem MD.ret {w : World} {S M P : Nat} {r : ByteArray} {done : List Ty} {v : Value} {wx : World} (h : MD w S M P r done v wx) (a b c : Value)
    (hR : w.heap.size < S) (hS : S < M) (hM : M < P) :
    ME w S M P r done v a b c (((wx.setCell ⟨M, 1, none⟩ a).setCell ⟨M, 2, none⟩ b).setCell ⟨M, 3, none⟩ c).drew := by
  have s3 := fun {x : Obj} (q : Nat) (hb : q ≠ M) (hx : wx.heap[q]? = some x) (u0 u1 u2 : Value) =>
    drew_heap (heap_setCell_ne (p := ⟨M, 3, none⟩) (u := u2) hb (heap_setCell_ne (p := ⟨M, 2, none⟩) (u := u1) hb (heap_setCell_ne (p := ⟨M, 1, none⟩) (u := u0) hb hx)))
  refine ⟨s3 _ (by omega) h.res _ _ _, s3 _ (by omega) h.rest _ _ _, drew_heap (cells_setCell (cells_setCell (cells_setCell h.m))), s3 _ (by omega) h.p _ _ _, ?_, ?_⟩
  · exact (ownsRow_setCell_below (ownsRow_setCell_below (ownsRow_setCell_below h.own (by show M < P + 1; omega) _) (by show M < P + 1; omega) _) (by show M < P + 1; omega) _).drew
  · exact (((h.bel.setCell (by show w.heap.size ≤ M; omega) _).setCell (by show w.heap.size ≤ M; omega) _).setCell (by show w.heap.size ≤ M; omega) _).drew
theorem next_ex {b : Nat} (r : ByteArray) (w : World) (hs : r.size ≤ 9223372036854775807) (h : w.heap[b]? = some (.cells #[.string r] 9 (0, 0))) :
    Calls Tryz.prog 198 #[.pointer (some ⟨b, 0, none⟩)] w fun e w' => e = .returned (.agg #[.int .i64 (pieceL (L r)).1, .int .i64 (pieceL (L r)).2.1.1, .string (mkB (pieceL (L r)).2.1.2)]) ∧
      w'.heap[b]? = some (.cells #[.string (r.extract (pieceL (L r)).2.2 r.size)] 9 (0, 0)) ∧ But b w w' := nextP_any b r w h hs
theorem owns_mono {w : World} {base base' : Nat} {e : TypeId} {size : Nat} {v : Value} {n : Nat} {xs : List Value} (own : w.ownsRow base e size v n xs) (h : base' ≤ base) : w.ownsRow base' e size v n xs := by
  refine ⟨own.1, ?_⟩
  rcases own.2 with h2 | ⟨g, cap, cur, hv, hg, r⟩
  · exact .inl h2
  · exact .inr ⟨g, cap, cur, hv, by omega, r⟩
theorem next_k {b k n : Nat} {q : Ty} (r : ByteArray) (w : World) (hx : pieceL (L r) = (k, q, n)) (hs : r.size ≤ 9223372036854775807) (h : w.heap[b]? = some (.cells #[.string r] 9 (0, 0))) :
    Calls Tryz.prog 198 #[.pointer (some ⟨b, 0, none⟩)] w fun e w' => e = .returned (.agg #[.int .i64 k, .int .i64 q.1, .string (mkB q.2)]) ∧ But b w w' := by
  have := nextP_any b r w h hs
  rw [hx] at this
  exact this.mono fun e w' ⟨h1, _, h3⟩ => ⟨h1, h3⟩
set_option maxRecDepth 1000000 in
set_option maxHeartbeats 3200000 in
theorem Method_any (s : ByteArray) (w : World) (hs : s.size ≤ 1000000000000000) :
    Calls Tryz.prog 184 #[.string s] w fun e w' => ∃ v, e = .returned (sgV v (res (methL (L s)))) ∧ w'.ownsRow w.heap.size 31 2 v (res (methL (L s))).1.length (tcells (res (methL (L s))).1) ∧ Below w.heap.size w w' := by
  obtain ⟨⟨k, p, n⟩, hx⟩ : ∃ x, pieceL (L s) = x := ⟨_, rfl⟩
  obtain ⟨r, hr⟩ : ∃ r, s.extract n s.size = r := ⟨_, rfl⟩
  have HN1 := fun W b => Lib.hid (next_new (b := b) s r W hx hr (by omega))
  by_cases hk : k = 2
  · have hoc := open_cons (l := L s) (by rw [hx]; exact hk)
    rw [hx] at hoc
    obtain ⟨hn1, t, ht⟩ := hoc
    simp only at hn1
    have hLr : L r = t := by rw [← hr, hn1]; rw [show L (s.extract 1 s.size) = _ from Lib.extract_to_end s 1]; exact drop_pos_cons ht
    have hm : methL (L s) = sigR (args t) := by rw [ht]; rfl
    have hrz : r.size + 1 = s.size := by rw [size_L, size_L, hLr, ht]; rfl
    rw [hm]
    obtain ⟨X, hX⟩ : ∃ X, res (sigR (args t)) = X := ⟨_, rfl⟩
    rw [hX]
    have HX := Lib.hid hX
    clear hX
    subst hk
    generalize mkB p.2 = nb at *
    generalize p.1 = d at *
    have HN2 := fun W b h => Lib.hid (next_ex (b := b) r W (by omega) h)
    clear hx hr hn1 ht hm
    go_enter Tryz.func184, Tryz.ntmps184
    go_wp2_with fail
    refine (pieces_any _ _).mono ?_
    rintro e w1 ⟨rfl, rfl⟩
    go_wp2_with fail
    refine ((HN1 _ _).out (heap_new2 w _ _)).mono ?_
    rintro e w2 ⟨rfl, h2, hbt⟩
    have hs2 := hbt.size
    have hz2 : w.heap.size + 1 < w2.heap.size := by simp at hs2; omega
    have R2 := Lib.hid (hbt.keep (q := w.heap.size) (by omega) (heap_alloc_lt (heap_new w _)))
    have H2 := Lib.hid h2
    have HB := Lib.hid (((Below.refl w.heap.size w).alloc (Nat.le_refl _) _).alloc (by simp) _ |>.trans (hbt.below (B := w.heap.size) (by omega) (by simp; omega)))
    have hfi := run_kind
    clear h2 hbt hs2
    go_wp2_with fail
    refine ((HN2 _ _ (heap_alloc_lt H2.out)).out).mono ?_
    rintro e w3 ⟨rfl, h3, hbt3⟩
    have hs3 := hbt3.size
    have hz4 : w2.heap.size < w3.heap.size := by simp at hs3; omega
    have R3 := hbt3.keep (q := w.heap.size) (by omega) (heap_alloc_lt R2.out)
    have M3 := hbt3.keep (q := w2.heap.size) (by omega) (heap_new w2 _)
    have HB3 := (HB.out.alloc (by omega) _).trans (hbt3.below (B := w.heap.size) (by omega) (by simp; omega))
    have HMS : MS w t s.size (w.heap.size + 1) w2.heap.size w3.heap.size r [] (.slice none 0 0) (w3.alloc (.cells #[.int .i64 (pieceL (L r)).1, .int .i64 (pieceL (L r)).2.1.1, .string (mkB (pieceL (L r)).2.1.2)] 221)) :=
      ⟨heap_alloc_lt R3, heap_alloc_lt h3, heap_alloc_lt M3, heap_new _ _, World.ownsRow_nil _ _ _ _, by rw [hLr]; exact Loop.start t, by simp; omega, HB3.alloc (by have := HB3.size; omega) _⟩
    have HMS := Lib.hid HMS
    clear R2 H2 HB R3 M3 h3 hbt3 hs3 HB3 HN1 HN2 hLr hrz
    obtain ⟨⟨k1, ⟨p1, p2⟩, n1⟩, hx1⟩ : ∃ x, pieceL (L r) = x := ⟨_, rfl⟩
    rw [hx1] at HMS ⊢
    simp only at HMS ⊢
    clear hx1
    go_wp2
    generalize w3.alloc (.cells #[.int .i64 (k1 : Int), .int .i64 (p1 : Int), .string (mkB p2)] 221) = wi at *
    generalize hSe : w.heap.size + 1 = S at *
    generalize hMe : w2.heap.size = M at *
    generalize hPe : w3.heap.size = P at *
    have hSM : S < M := by omega
    have hMP : M < P := by omega
    have hRS : w.heap.size < S := by omega
    clear hSe hMe hPe hz2 hz4
    go_loopg [6] r.size (fun g nv wx => ∃ (l0 : ByteArray) (done : List Ty) (v : Value), nv = .int .i64 (done.length : Int) ∧ l0.size ≤ g ∧ MS w t s.size S M P l0 done v wx)
    case atStart => exact ⟨r, [], _, rfl, Nat.le_refl _, HMS.out⟩
    case round =>
      obtain ⟨l0, done, v, rfl, hg, hms⟩ := hrel
      have HM := Lib.hid hms
      obtain ⟨z1, z2, z3, z4⟩ := hms.sizes
      have hlen := hms.len
      by_cases h5 : (pieceL (L l0)).1 = 5
      · obtain ⟨q, hf, hq⟩ := type_of h5
        have hP := hms.p
        have hS := hms.rest
        have hl1 := hms.loop.next hf
        have htp := tlen_pos q
        have htl := firstL_len hf
        rw [← size_L] at htl
        rw [hq] at hP hS
        simp only at hP hS
        have c0 : wr.cell? ⟨P, 0, none⟩ = some (.int .i64 5) := cells_of hP 0
        have c1 : wr.cell? ⟨P, 1, none⟩ = some (.int .i64 (q.1 : Int)) := cells_of hP 1
        have c2 : wr.cell? ⟨P, 2, none⟩ = some (.string (mkB q.2)) := cells_of hP 2
        have cM : wr.cell? ⟨M, 0, none⟩ = some v := cells_of hms.m 0
        obtain ⟨r1, hr1⟩ : ∃ r1, l0.extract (tlen q) l0.size = r1 := ⟨_, rfl⟩
        have hLr1 : L r1 = (L l0).drop (tlen q) := by rw [← hr1]; exact Lib.extract_to_end l0 _
        have hz1 : r1.size + tlen q = l0.size := by rw [size_L, hLr1, List.length_drop, ← size_L]; omega
        rw [← hLr1] at hl1
        rw [hr1] at hS
        have HS := Lib.hid hS
        have HL1 := Lib.hid hl1
        have HNX := fun W h => Lib.hid (next_ex (b := S) r1 W (by omega) h)
        have hd : ((done.length : Nat) : Int) ≤ 1000000000000000 := by omega
        have hrz : r1.size < gk := by omega
        clear hms h5 hf hq hP hS hl1 htl hr1 hLr1
        by_cases h16 : done.length < 16
        · have hlt : (done.length : Int) < 16 := by omega
          obtain ⟨i0, hi, hz0, hzz1, hz2⟩ := info_parts Tryz.info31
          have HOWN := Lib.hid HM.out.own
          have hdl : (done.take 16).length ≤ 16 := by rw [List.length_take]; omega
          generalize hqn : mkB q.2 = qn at *
          generalize hqd : q.1 = qd at *
          have HQN := Lib.hid hqn
          have HQD := Lib.hid hqd
          clear hqn hqd
          go_wp2_with (at_builtin; refine wpList_append_own _ rfl (.tmp 25) (.tmp 28) 39 rfl (P + 1) 31 i0 (.agg #[.int .i64 0, .string ⟨#[]⟩]) 2 24 Tryz.underlying39 hi hz0 hzz1 hz2 rfl (by decide) _ _ _ rfl (HOWN.out.alloc _) ⟨wr.heap.size, 0, none⟩ 1 1 [.int .i64 (qd : Int), .string qn] rfl rfl ?c1 ?c2 ?c3 ?c4 ?c5 ?_)
          case c1 => exact new_cells wr [.int .i64 (qd : Int), .string qn] 31
          case c2 => intro u hu; simp at hu; rcases hu with rfl | rfl <;> rfl
          case c3 => unfold maxLen; omega
          case c4 => omega
          case c5 => simp; omega
          intro v' w5 hown' hgrow _
          have hv : ∃ g cap, v' = .slice (some ⟨g, 0, none⟩) (min 16 done.length + 1) cap := by
            rcases hown'.2 with ⟨_, h0⟩ | ⟨g, cap, _, h, _⟩
            · omega
            · exact ⟨g, cap, h⟩
          obtain ⟨g, cap, rfl⟩ := hv
          have own5 : w5.ownsRow (P + 1) 31 2 (.slice (some ⟨g, 0, none⟩) (min 16 done.length + 1) cap) ((done.take 16).length + 1) (tcells (done.take 16) ++ [.int .i64 q.1, .string (mkB q.2)]) := by rw [List.length_take, HQN.out, HQD.out]; exact hown'
          have MDX := Lib.hid (HM.out.grow q h16 hRS hSM hMP own5 hgrow)
          have M5 := grown_keep hgrow (HOWN.out.alloc _) (show M < P + 1 by omega) (heap_alloc_lt HM.out.m)
          have H6 := Lib.hid (heap_setCell_ne (p := ⟨M, 0, none⟩) (u := .slice (some ⟨g, 0, none⟩) (min 16 done.length + 1) cap) (show S ≠ M by omega) (grown_keep hgrow (HOWN.out.alloc _) (show S < P + 1 by omega) (heap_alloc_lt HS.out)))
          have c5 : w5.cell? ⟨M, 0, none⟩ = some v := cells_of M5 0
          have f5 := free_of M5 0
          clear hown' hgrow own5 M5 c0 c1 c2 cM hi hz0 hzz1 hz2
          go_wp2_with fail
          refine ((HNX _ H6.out).out).mono ?_
          rintro e w7 ⟨rfl, h7, hbt7⟩
          have P7 := hbt7.keep (by omega) MDX.out.p
          have c70 : w7.cell? ⟨P, 0, none⟩ = some (.int .i64 ((pieceL (L l0)).1 : Int)) := cells_of P7 0
          have c71 : w7.cell? ⟨P, 1, none⟩ = some (.int .i64 ((pieceL (L l0)).2.1.1 : Int)) := cells_of P7 1
          have c72 : w7.cell? ⟨P, 2, none⟩ = some (.string (mkB (pieceL (L l0)).2.1.2)) := cells_of P7 2
          have f70 := free_of P7 0
          have f71 := free_of P7 1
          have f72 := free_of P7 2
          have HS8 := Lib.hid (MDX.out.step (t := t) (z := s.size) hRS hSM hMP hbt7 h7 HL1.out (by simp; omega))
          clear P7 h7 hbt7
          go_wp2
          go_roundg r1.size
          case measure => exact hrz
          case rel => exact ⟨r1, done ++ [q], _, by rw [List.length_append]; go_num, Nat.le_refl _, HS8.out⟩
        · have hge : 16 ≤ (done.length : Int) := by omega
          have MDX := Lib.hid (HM.out.more q (by omega))
          have H6 := Lib.hid HS.out
          clear cM c1 c2
          go_wp2_with fail
          refine ((HNX _ H6.out).out).mono ?_
          rintro e w7 ⟨rfl, h7, hbt7⟩
          have P7 := hbt7.keep (by omega) MDX.out.p
          have c70 : w7.cell? ⟨P, 0, none⟩ = some (.int .i64 ((pieceL (L l0)).1 : Int)) := cells_of P7 0
          have c71 : w7.cell? ⟨P, 1, none⟩ = some (.int .i64 ((pieceL (L l0)).2.1.1 : Int)) := cells_of P7 1
          have c72 : w7.cell? ⟨P, 2, none⟩ = some (.string (mkB (pieceL (L l0)).2.1.2)) := cells_of P7 2
          have f70 := free_of P7 0
          have f71 := free_of P7 1
          have f72 := free_of P7 2
          have HS8 := Lib.hid (MDX.out.step (t := t) (z := s.size) hRS hSM hMP hbt7 h7 HL1.out (by simp; omega))
          clear P7 h7 hbt7
          go_wp2
          go_roundg r1.size
          case measure => exact hrz
          case rel => exact ⟨r1, done ++ [q], v, by rw [List.length_append]; go_num, Nat.le_refl _, HS8.out⟩
      · have hfn : firstL (L l0) = none := by
          cases hf : firstL (L l0) with
          | none => rfl
          | some q => rw [pieceL_type hf] at h5; exact absurd rfl h5
        have hag := hms.loop.stop hfn
        have hP := hms.p
        have hd : ((done.length : Nat) : Int) ≤ 1000000000000000 := by omega
        have c0 : wr.cell? ⟨P, 0, none⟩ = some (.int .i64 ((pieceL (L l0)).1 : Int)) := cells_of hP 0
        have e5 : (((pieceL (L l0)).1 : Int) == 5) = false := by rw [beq_eq_false_iff_ne]; omega
        by_cases h3 : (pieceL (L l0)).1 = 3
        · have hcc := close_cons h3
          have hS := hms.rest
          rw [hcc.1] at hS
          obtain ⟨r1, hr1⟩ : ∃ r1, l0.extract 1 l0.size = r1 := ⟨_, rfl⟩
          have hLr1 : L r1 = (L l0).drop 1 := by rw [← hr1]; exact Lib.extract_to_end l0 _
          have hz1 : r1.size ≤ 1000000000000000 := by rw [size_L, hLr1, List.length_drop, ← size_L]; omega
          have hres : X = res ((retL (L r1)).map fun q => (done, q)) := by rw [← HX.out, hag, sig_close h3, hLr1]
          rw [hr1] at hS
          have HS := Lib.hid hS
          have HR := Lib.hid hres
          have HNX := fun W h => Lib.hid (next_ex (b := S) r1 W (by omega) h)
          have c3 : wr.cell? ⟨P, 0, none⟩ = some (.int .i64 3) := by rw [c0, h3]; rfl
          have hdz : done.length ≤ 1000000000000000 := by omega
          clear hms h5 hfn hag hP hS hres hLr1 hr1 hcc c0 e5 h3 hlen hg HX HMS
          go_wp2_with fail
          refine ((HNX _ HS.out).out).mono ?_
          rintro e w7 ⟨rfl, h7, hbt7⟩
          have P7 := hbt7.keep (by omega) HM.out.p
          have c70 : w7.cell? ⟨P, 0, none⟩ = some (.int .i64 ((pieceL (L l0)).1 : Int)) := cells_of P7 0
          have c71 : w7.cell? ⟨P, 1, none⟩ = some (.int .i64 ((pieceL (L l0)).2.1.1 : Int)) := cells_of P7 1
          have c72 : w7.cell? ⟨P, 2, none⟩ = some (.string (mkB (pieceL (L l0)).2.1.2)) := cells_of P7 2
          have f70 := free_of P7 0
          have f71 := free_of P7 1
          have f72 := free_of P7 2
          have HD8 := Lib.hid (HM.out.mid.go hRS hSM hMP hbt7 h7)
          clear P7 h7 hbt7 HM
          go_wp2
          generalize ((w7.setCell ⟨P, 0, none⟩ (.int .i64 ((pieceL (L r1)).1 : Int))).setCell ⟨P, 1, none⟩ (.int .i64 ((pieceL (L r1)).2.1.1 : Int))).setCell ⟨P, 2, none⟩ (.string (mkB (pieceL (L r1)).2.1.2)) = w8 at *
          clear c70 c71 c72 f70 f71 f72
          obtain ⟨r2, hr2⟩ : ∃ r2, r1.extract (pieceL (L r1)).2.2 r1.size = r2 := ⟨_, rfl⟩
          have hD8 := HD8.out
          have hP8 := hD8.p
          have hM8 := hD8.m
          have hS8 := hD8.rest
          rw [hr2] at hS8
          have HS8 := Lib.hid hS8
          have c80 : w8.cell? ⟨P, 0, none⟩ = some (.int .i64 ((pieceL (L r1)).1 : Int)) := cells_of hP8 0
          have c81 : w8.cell? ⟨P, 1, none⟩ = some (.int .i64 ((pieceL (L r1)).2.1.1 : Int)) := cells_of hP8 1
          have c82 : w8.cell? ⟨P, 2, none⟩ = some (.string (mkB (pieceL (L r1)).2.1.2)) := cells_of hP8 2
          have m80 : w8.cell? ⟨M, 0, none⟩ = some v := cells_of hM8 0
          have m81 : w8.cell? ⟨M, 1, none⟩ = some (.int .i64 0) := cells_of hM8 1
          have m82 : w8.cell? ⟨M, 2, none⟩ = some (.string ⟨#[]⟩) := cells_of hM8 2
          have m83 : w8.cell? ⟨M, 3, none⟩ = some (.bool false) := cells_of hM8 3
          have f81 := free_of hM8 1
          have f82 := free_of hM8 2
          have f83 := free_of hM8 3
          clear hD8 hP8 hM8 hS8
          obtain ⟨⟨k2, ⟨q1, q2⟩, n2⟩, hx2⟩ : ∃ x, pieceL (L r1) = x := ⟨_, rfl⟩
          have HCASE := Lib.hid (show (k2 ≠ 4 ∧ k2 ≠ 5 ∧ X = ([], (0, []), false, 9)) ∨ ((k2 = 4 ∨ k2 = 5) ∧ ((L r2 ≠ [] ∧ X = ([], (0, []), false, 9)) ∨ (L r2 = [] ∧ 16 < done.length ∧ X = ([], (0, []), false, 3)) ∨
              (L r2 = [] ∧ done.length ≤ 16 ∧ X = (done, (q1, q2), decide (k2 = 4), 0)))) by
            have hLr2 : L r2 = (L r1).drop n2 := by rw [← hr2, hx2]; exact Lib.extract_to_end r1 _
            have key : ∀ qq : Option Ty, retL (L r1) = (if L r2 = [] then some qq else none) → (q1, q2) = qq.getD (0, []) → decide (k2 = 4) = qq.isNone →
                (L r2 ≠ [] ∧ X = ([], (0, []), false, 9)) ∨ (L r2 = [] ∧ 16 < done.length ∧ X = ([], (0, []), false, 3)) ∨ (L r2 = [] ∧ done.length ≤ 16 ∧ X = (done, (q1, q2), decide (k2 = 4), 0)) := by
              intro qq e1 e2 e3
              rw [HR.out, e1]
              by_cases hn : L r2 = []
              · rw [if_pos hn]
                by_cases h16 : done.length ≤ 16
                · refine .inr (.inr ⟨hn, h16, ?_⟩)
                  show (if done.length ≤ 16 then _ else _) = _
                  rw [if_pos h16, e2, e3]
                · refine .inr (.inl ⟨hn, by omega, ?_⟩)
                  show (if done.length ≤ 16 then _ else _) = _
                  rw [if_neg h16]
              · rw [if_neg hn]
                exact .inl ⟨hn, rfl⟩
            by_cases h4 : k2 = 4
            · have hv := void_cons (l := L r1) (by rw [hx2]; exact h4)
              have hrv := ret_void (l := L r1) (by rw [hx2]; exact h4)
              rw [hx2] at hv
              obtain ⟨e1, e2, _⟩ := hv
              simp only at e1 e2
              rw [e1] at hLr2
              rw [← hLr2] at hrv
              exact .inr ⟨.inl h4, key none hrv e2 (by simp [h4])⟩
            · by_cases h5 : k2 = 5
              · obtain ⟨pp, hf, hp5⟩ := type_of (l := L r1) (by rw [hx2]; exact h5)
                have hrt := ret_type hf
                rw [hx2] at hp5
                simp only [Prod.mk.injEq] at hp5
                obtain ⟨_, e2, e3⟩ := hp5
                rw [e3] at hLr2
                rw [← hLr2] at hrt
                exact .inr ⟨.inr h5, key (some pp) hrt (by rw [← e2]; rfl) (by simp [h4])⟩
              · refine .inl ⟨h4, h5, ?_⟩
                rw [HR.out, ret_other (by rw [hx2]; exact h4) (by rw [hx2]; exact h5)]
                rfl)
          rw [hx2] at c80 c81 c82
          simp only at c80 c81 c82
          have hz2 : r2.size ≤ 1000000000000000 := by rw [← hr2, size_L, L_extract, List.length_take, List.length_drop, ← size_L]; omega
          have HX2 := Lib.hid hx2
          obtain ⟨⟨k3, q3, n3⟩, hx3⟩ : ∃ x, pieceL (L r2) = x := ⟨_, rfl⟩
          have HNX2 := fun W h => Lib.hid (next_k (b := S) r2 W hx3 (by omega) h)
          have hend := pieceL_end (l := L r2)
          rw [hx3] at hend
          have HEND := Lib.hid hend
          generalize mkB q3.2 = s3 at *
          generalize q3.1 = d3 at *
          clear hr2 hx2 hx3 hend
          generalize hq2 : mkB q2 = nq at *
          have HQ2 := Lib.hid hq2
          clear hq2
          go_region
          have HE := Lib.hid (HD8.out.ret (.int .i64 (q1 : Int)) (.string nq) (.bool ((k2 : Int) == 4)) hRS hSM hMP)
          have H9 := Lib.hid (drew_heap (heap_setCell_ne (p := ⟨M, 3, none⟩) (u := .bool ((k2 : Int) == 4)) (show S ≠ M by omega) (heap_setCell_ne (p := ⟨M, 2, none⟩) (u := .string nq) (show S ≠ M by omega) (heap_setCell_ne (p := ⟨M, 1, none⟩) (u := .int .i64 (q1 : Int)) (show S ≠ M by omega) HS8.out))))
          have P9 : ((((w8.setCell ⟨M, 1, none⟩ (.int .i64 (q1 : Int))).setCell ⟨M, 2, none⟩ (.string nq)).setCell ⟨M, 3, none⟩ (.bool ((k2 : Int) == 4))).drew).cell? ⟨P, 0, none⟩ = some (.int .i64 (k2 : Int)) := by
            have := cells_of HE.out.p 0
            rw [HX2.out] at this
            exact this
          have M9 := cells_of HE.out.m 3
          generalize ((((w8.setCell ⟨M, 1, none⟩ (.int .i64 (q1 : Int))).setCell ⟨M, 2, none⟩ (.string nq)).setCell ⟨M, 3, none⟩ (.bool ((k2 : Int) == 4))).drew) = w9 at *
          have m93 : w9.cell? ⟨M, 3, none⟩ = some (.bool ((k2 : Int) == 4)) := M9
          clear M9 c80 c81 c82 m80 m81 m82 m83 f81 f82 f83 HS8 HD8 c3 HR HNX
          rcases HCASE.out with ⟨h4, h5, hX⟩ | ⟨h45, hrest⟩
          · have HXX := Lib.hid hX
            have e4 : ((k2 : Int) == 4) = false := by rw [beq_eq_false_iff_ne]; omega
            have e5 : ((k2 : Int) == 5) = false := by rw [beq_eq_false_iff_ne]; omega
            have e5' : ((k2 : Int) != 5) = true := by rw [bne, e5]; rfl
            have RES := HE.out.res
            clear HCASE hX h4 h5
            have r0 : w9.cell? ⟨w.heap.size, 0, none⟩ = some (.slice none 0 0) := cells_of RES 0
            have r1' : w9.cell? ⟨w.heap.size, 1, none⟩ = some (.int .i64 0) := cells_of RES 1
            have r2' : w9.cell? ⟨w.heap.size, 2, none⟩ = some (.string ⟨#[]⟩) := cells_of RES 2
            have r3 : w9.cell? ⟨w.heap.size, 3, none⟩ = some (.bool false) := cells_of RES 3
            have f0 := free_of RES 0
            have f1 := free_of RES 1
            have f2 := free_of RES 2
            have f3 := free_of RES 3
            clear RES
            go_wp2
            refine bodyPost_ret (v := .tuple #[.agg #[.slice none 0 0, .int .i64 0, .string ⟨#[]⟩, .bool false], .int .i64 9]) (by simp [results, Tryz.results184, go_sem, r0, r1', r2', r3]) rfl ?_
            rw [HXX.out]
            refine ⟨_, rfl, World.ownsRow_nil _ _ _ _, ?_⟩
            exact (((HE.out.bel.setCell (Nat.le_refl _) _).setCell (Nat.le_refl _) _).setCell (Nat.le_refl _) _).setCell (Nat.le_refl _) _
          · clear HCASE
            rcases h45 with rfl | rfl
            all_goals
              rcases hrest with ⟨hn, hX⟩ | ⟨hn, h16, hX⟩ | ⟨hn, h16, hX⟩
              · have HXX := Lib.hid hX
                have hk3 : k3 ≠ 1 := fun e => hn (HEND.out.1 e)
                have e1 : ((k3 : Int) == 1) = false := by rw [beq_eq_false_iff_ne]; omega
                have e1' : ((k3 : Int) != 1) = true := by rw [bne, e1]; rfl
                clear hX hn hk3
                go_wp2_with fail
                refine ((HNX2 _ H9.out).out).mono ?_
                rintro e w10 ⟨rfl, hbt10⟩
                have RES := hbt10.keep (by omega) HE.out.res
                have M10 := hbt10.keep (by omega) HE.out.m
                have HB10 := Lib.hid (HE.out.bel.trans (hbt10.below (B := w.heap.size) (by omega) (by have := HE.out.bel.size; omega)))
                have HOW := Lib.hid (own_but HE.out.own hbt10 (by omega))
                have r0 : w10.cell? ⟨w.heap.size, 0, none⟩ = some (.slice none 0 0) := cells_of RES 0
                have r1' : w10.cell? ⟨w.heap.size, 1, none⟩ = some (.int .i64 0) := cells_of RES 1
                have r2' : w10.cell? ⟨w.heap.size, 2, none⟩ = some (.string ⟨#[]⟩) := cells_of RES 2
                have r3 : w10.cell? ⟨w.heap.size, 3, none⟩ = some (.bool false) := cells_of RES 3
                have f0 := free_of RES 0
                have f1 := free_of RES 1
                have f2 := free_of RES 2
                have f3 := free_of RES 3
                clear RES M10 hbt10
                go_wp2
                refine bodyPost_ret (v := .tuple #[.agg #[.slice none 0 0, .int .i64 0, .string ⟨#[]⟩, .bool false], .int .i64 9]) (by simp [results, Tryz.results184, go_sem, r0, r1', r2', r3]) rfl ?_
                rw [HXX.out]
                refine ⟨_, rfl, World.ownsRow_nil _ _ _ _, ?_⟩
                exact (((HB10.out.setCell (Nat.le_refl _) _).setCell (Nat.le_refl _) _).setCell (Nat.le_refl _) _).setCell (Nat.le_refl _) _
              · have HXX := Lib.hid hX
                have hk3 : k3 = 1 := HEND.out.2 hn
                subst hk3
                have h17 : (16 : Int) < (done.length : Int) := by omega
                clear hX hn h16
                go_wp2_with fail
                refine ((HNX2 _ H9.out).out).mono ?_
                rintro e w10 ⟨rfl, hbt10⟩
                have RES := hbt10.keep (by omega) HE.out.res
                have M10 := hbt10.keep (by omega) HE.out.m
                have HB10 := Lib.hid (HE.out.bel.trans (hbt10.below (B := w.heap.size) (by omega) (by have := HE.out.bel.size; omega)))
                have HOW := Lib.hid (own_but HE.out.own hbt10 (by omega))
                have r0 : w10.cell? ⟨w.heap.size, 0, none⟩ = some (.slice none 0 0) := cells_of RES 0
                have r1' : w10.cell? ⟨w.heap.size, 1, none⟩ = some (.int .i64 0) := cells_of RES 1
                have r2' : w10.cell? ⟨w.heap.size, 2, none⟩ = some (.string ⟨#[]⟩) := cells_of RES 2
                have r3 : w10.cell? ⟨w.heap.size, 3, none⟩ = some (.bool false) := cells_of RES 3
                have f0 := free_of RES 0
                have f1 := free_of RES 1
                have f2 := free_of RES 2
                have f3 := free_of RES 3
                clear RES M10 hbt10
                go_wp2
                refine bodyPost_ret (v := .tuple #[.agg #[.slice none 0 0, .int .i64 0, .string ⟨#[]⟩, .bool false], .int .i64 3]) (by simp [results, Tryz.results184, go_sem, r0, r1', r2', r3]) rfl ?_
                rw [HXX.out]
                refine ⟨_, rfl, World.ownsRow_nil _ _ _ _, ?_⟩
                exact (((HB10.out.setCell (Nat.le_refl _) _).setCell (Nat.le_refl _) _).setCell (Nat.le_refl _) _).setCell (Nat.le_refl _) _
              · have HXX := Lib.hid hX
                have hk3 : k3 = 1 := HEND.out.2 hn
                subst hk3
                have h17 : (done.length : Int) ≤ 16 := by omega
                have HT := Lib.hid (show done.take 16 = done from List.take_of_length_le h16)
                clear hX hn h16
                go_wp2_with fail
                refine ((HNX2 _ H9.out).out).mono ?_
                rintro e w10 ⟨rfl, hbt10⟩
                have RES := hbt10.keep (by omega) HE.out.res
                have M10 := hbt10.keep (by omega) HE.out.m
                have HB10 := Lib.hid (HE.out.bel.trans (hbt10.below (B := w.heap.size) (by omega) (by have := HE.out.bel.size; omega)))
                have HOW := Lib.hid (own_but HE.out.own hbt10 (by omega))
                have r0 : w10.cell? ⟨w.heap.size, 0, none⟩ = some (.slice none 0 0) := cells_of RES 0
                have r1' : w10.cell? ⟨w.heap.size, 1, none⟩ = some (.int .i64 0) := cells_of RES 1
                have r2' : w10.cell? ⟨w.heap.size, 2, none⟩ = some (.string ⟨#[]⟩) := cells_of RES 2
                have r3 : w10.cell? ⟨w.heap.size, 3, none⟩ = some (.bool false) := cells_of RES 3
                have f0 := free_of RES 0
                have f1 := free_of RES 1
                have f2 := free_of RES 2
                have f3 := free_of RES 3
                have mm0 : w10.cell? ⟨M, 0, none⟩ = some v := cells_of M10 0
                have mm1 : w10.cell? ⟨M, 1, none⟩ = some (.int .i64 (q1 : Int)) := cells_of M10 1
                have mm2 : w10.cell? ⟨M, 2, none⟩ = some (.string nq) := cells_of M10 2
                obtain ⟨bb, mm3, hbb⟩ : ∃ bb, w10.cell? ⟨M, 3, none⟩ = some (.bool bb) ∧ X = (done, (q1, q2), bb, 0) := ⟨_, cells_of M10 3, by rw [HXX.out]; rfl⟩
                have HBB := Lib.hid hbb
                clear RES M10 hbt10 hbb
                obtain ⟨va, vn, vc, rfl⟩ : ∃ a n c, v = .slice a n c := by
                  rcases HOW.out.2 with ⟨h, _⟩ | ⟨g, cap, _, h, _⟩ <;> exact ⟨_, _, _, h⟩
                go_wp2
                refine bodyPost_ret (v := .tuple #[.agg #[.slice va vn vc, .int .i64 (q1 : Int), .string nq, .bool bb], .int .i64 0]) (by simp [results, Tryz.results184, go_sem, r0, r1', r2', r3]) rfl ?_
                rw [HBB.out]
                refine ⟨.slice va vn vc, ?_, ?_, ?_⟩
                · show _ = Ending.returned (.tuple #[.agg #[.slice va vn vc, _, .string (mkB q2), _], _])
                  rw [HQ2.out]
                · have ho := HOW.out
                  rw [HT.out] at ho
                  exact owns_mono (ownsRow_setCell_below (ownsRow_setCell_below (ownsRow_setCell_below (ownsRow_setCell_below ho (by show w.heap.size < P + 1; omega) _) (by show w.heap.size < P + 1; omega) _) (by show w.heap.size < P + 1; omega) _) (by show w.heap.size < P + 1; omega) _) (by omega)
                · exact (((HB10.out.setCell (Nat.le_refl _) _).setCell (Nat.le_refl _) _).setCell (Nat.le_refl _) _).setCell (Nat.le_refl _) _
        · have HR := Lib.hid (show X = ([], (0, []), false, 9) by rw [← HX.out, hag, sig_noclose h3, res_none])
          have e3 : (((pieceL (L l0)).1 : Int) == 3) = false := by rw [beq_eq_false_iff_ne]; omega
          have e3' : (((pieceL (L l0)).1 : Int) != 3) = true := by rw [bne, e3]; rfl
          have r0 : wr.cell? ⟨w.heap.size, 0, none⟩ = some (.slice none 0 0) := cells_of hms.res 0
          have r1 : wr.cell? ⟨w.heap.size, 1, none⟩ = some (.int .i64 0) := cells_of hms.res 1
          have r2 : wr.cell? ⟨w.heap.size, 2, none⟩ = some (.string ⟨#[]⟩) := cells_of hms.res 2
          have r3 : wr.cell? ⟨w.heap.size, 3, none⟩ = some (.bool false) := cells_of hms.res 3
          have f0 := free_of hms.res 0
          have f1 := free_of hms.res 1
          have f2 := free_of hms.res 2
          have f3 := free_of hms.res 3
          generalize (pieceL (L l0)).1 = kk at *
          clear hms h5 hag hfn hP h3
          go_wp2
          refine bodyPost_ret (v := .tuple #[.agg #[.slice none 0 0, .int .i64 0, .string ⟨#[]⟩, .bool false], .int .i64 9]) (by simp [results, Tryz.results184, go_sem, r0, r1, r2, r3]) rfl ?_
          rw [HR.out]
          refine ⟨_, rfl, World.ownsRow_nil _ _ _ _, ?_⟩
          exact (((HM.out.bel.setCell (Nat.le_refl _) _).setCell (Nat.le_refl _) _).setCell (Nat.le_refl _) _).setCell (Nat.le_refl _) _
  · have hm : methL (L s) = none := meth_open (by rw [hx]; exact hk)
    rw [hm, res_none]
    have hk1 : (((k : Nat) : Int) == 2) = false := by rw [beq_eq_false_iff_ne]; omega
    have hk2 : (((k : Nat) : Int) != 2) = true := by rw [bne, hk1]; rfl
    have hfi := run_kind
    generalize mkB p.2 = nb at *
    generalize p.1 = d at *
    clear hx hr hm hk
    go_enter Tryz.func184, Tryz.ntmps184
    go_wp2_with fail
    refine (pieces_any _ _).mono ?_
    rintro e w1 ⟨rfl, rfl⟩
    go_wp2_with fail
    refine ((HN1 _ _).out (heap_new2 w _ _)).mono ?_
    rintro e w2 ⟨rfl, h2, hbt⟩
    have R2 := hbt.keep (q := w.heap.size) (by omega) (heap_alloc_lt (heap_new w _))
    have HB := Lib.hid (((Below.refl w.heap.size w).alloc (Nat.le_refl _) _).alloc (by simp) _ |>.trans (hbt.below (B := w.heap.size) (by omega) (by simp; omega)))
    have r0 : w2.cell? ⟨w.heap.size, 0, none⟩ = some (.slice none 0 0) := cells_of R2 0
    have r1 : w2.cell? ⟨w.heap.size, 1, none⟩ = some (.int .i64 0) := cells_of R2 1
    have r2 : w2.cell? ⟨w.heap.size, 2, none⟩ = some (.string ⟨#[]⟩) := cells_of R2 2
    have r3 : w2.cell? ⟨w.heap.size, 3, none⟩ = some (.bool false) := cells_of R2 3
    have f0 := free_of R2 0
    have f1 := free_of R2 1
    have f2 := free_of R2 2
    have f3 := free_of R2 3
    clear h2 hbt R2
    go_wp2
    refine bodyPost_ret (v := .tuple #[.agg #[.slice none 0 0, .int .i64 0, .string ⟨#[]⟩, .bool false], .int .i64 9]) (by simp [results, Tryz.results184, go_sem, r0, r1, r2, r3]) rfl ⟨_, rfl, World.ownsRow_nil _ _ _ _, ?_⟩
    exact (((HB.out.setCell (Nat.le_refl _) _).setCell (Nat.le_refl _) _).setCell (Nat.le_refl _) _).setCell (Nat.le_refl _) _
end Go.Proofs.YtmaknddlgppinaaGreatDoor
