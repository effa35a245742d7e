/-
  WALK of readMap: a map is read off the front of a text.
-/
import Derived.Test.YtgepgbpjdjbelaaRe
import Derived.Deep.DeepCutAuto
import Derived.Deep.RegionHeld
import Derived.Laws.IdiomStrings
set_option linter.unusedVariables false
set_option linter.unusedSimpArgs false
namespace Go.Proofs.Ytgepgbpjdjbelaa
open Go.RowKit

attribute [local go_sem] Oper.semAt_some
theorem string_owned {w : World} {base : Nat} {v : Value} {l : List UInt8} (h : w.ownsRow base 5 1 v l.length (ucells l)) : (convert 59 9 v).run Try.prog w = .ok (.string ⟨l.toArray⟩) w := by
  rcases h.2 with ⟨rfl, hn⟩ | ⟨g, cap, cur, rfl, hb, hgg, rest⟩
  · have : l = [] := List.eq_nil_of_length_eq_zero hn
    subst this
    rw [run_convert_bytes_string w 59 9 5 none 0 0 Try.underlying59 Try.underlying5 Try.underlying9]
    rfl
  · refine run_convert_bytes_back w 59 9 5 ⟨g, 0, none⟩ cap l Try.underlying59 Try.underlying5 Try.underlying9 ?_
    intro j hj
    exact h.cells (g := g) rfl j _ (by simp [ucells, hj])
theorem L_extract (s : ByteArray) (i j : Nat) : L (s.extract i j) = ((L s).drop i).take (j - i) := by
  have := Lib.extract_toList s i j
  simp [L, this]
theorem L_from (s : ByteArray) (k : Nat) : L (s.extract k s.size) = (L s).drop k := by
  rw [L_extract]
  rw [List.take_of_length_le]
  rw [List.length_drop, ← size_L]
  omega
theorem L_two {s : ByteArray} (h0 : 0 < s.size) (h1 : 1 < s.size) : L s = s[0]'h0 :: s[1]'h1 :: L (s.extract 2 s.size) := by
  rw [L_from]
  have e0 : (L s)[0]? = some (s[0]'h0) := by rw [List.getElem?_eq_getElem (by rw [← size_L]; exact h0)]; rfl
  have e1 : (L s)[1]? = some (s[1]'h1) := by rw [List.getElem?_eq_getElem (by rw [← size_L]; exact h1)]; rfl
  generalize L s = l at e0 e1
  match l, e0, e1 with
  | x :: y :: r, e0, e1 =>
    simp only [List.getElem?_cons_zero, List.getElem?_cons_succ, Option.some.injEq] at e0 e1
    subst e0; subst e1
    rfl
/-- What readMap answers. -/
def RAns (w : World) (r : RM) (e : Ending) (w' : World) : Prop :=
  Below w.heap.size w w' ∧ match r with
  | .no k => e = .returned (.tuple #[.agg #[.slice none 0 0, .slice none 0 0], .string ⟨#[]⟩, .int .i64 (k : Int)])
  | .yes m r => ∃ (v1 v2 : Value) (rest : ByteArray), e = .returned (.tuple #[.agg #[v1, v2], .string rest, .int .i64 0]) ∧ L rest = r ∧ OwnL w' w.heap.size v1 m.1 ∧ OwnL w' w.heap.size v2 m.2
theorem wp_normal {P : Program} {c : Code} {K : Act → World → Prop} {Q : Exit → Act → World → Prop} {a : Act} {w : World} (h : c.wp P (Exit.then K (fun _ _ _ => False)) a w) : c.wp P (Exit.then K Q) a w :=
  wp_mono h (fun e a w h => by cases e <;> first | exact h | exact h.elim)
theorem drew_size (W : World) : W.drew.heap.size = W.heap.size := rfl
theorem and_bit (c j : Nat) : (((c &&& 2 ^ j : Nat) : Int) != 0) = c.testBit j := by
  cases h : c.testBit j with
  | false =>
    have : c &&& 2 ^ j = 0 := by
      apply Nat.eq_of_testBit_eq
      intro i
      rw [Nat.testBit_and, Nat.testBit_two_pow, Nat.zero_testBit]
      by_cases e : j = i
      · subst e
        rw [h]
        rfl
      · simp [e]
    rw [this]
    rfl
  | true =>
    have : c &&& 2 ^ j ≠ 0 := by
      intro e
      have := congrArg (fun n => n.testBit j) e
      simp only [Nat.testBit_and, Nat.testBit_two_pow, Nat.zero_testBit, h] at this
      simp at this
    rw [bne_iff_ne]
    omega
theorem bcells_set (l : List Bool) (i : Nat) (b : Bool) : (bcells l).toArray.setIfInBounds i (.bool b) = (bcells (l.set i b)).toArray := by
  simp [bcells]
theorem packed_n (l1 l2 : List Bool) (x y : Nat) (hx : l1.length = x) (hy : l2.length = y) (q1 q2 : Nat) (w : World) (s1 : w.heap[q1]? = some (.cells (bcells l1).toArray 4 (0, 0))) (s2 : w.heap[q2]? = some (.cells (bcells l2).toArray 4 (0, 0))) (h1 : x ≤ 64) (h2 : y ≤ 64) :
    Calls Try.prog 29 #[.agg #[.slice (some ⟨q1, 0, none⟩) x x, .slice (some ⟨q2, 0, none⟩) y y]] w fun e w' => ∃ v, e = .returned v ∧ OwnB w' w.heap.size v (packB (l1 ++ l2)) ∧ Below w.heap.size w w' := by
  subst hx; subst hy
  exact packed_any l1 l2 _ _ _ _ w.heap.size w (Row.of_own (own_new (size := 1) (base := 0) s1 (Nat.zero_le _) (by rw [bcells_len, Nat.mul_one]) (by unfold maxLen; omega))) (Row.of_own (own_new (size := 1) (base := 0) s2 (Nat.zero_le _) (by rw [bcells_len, Nat.mul_one]) (by unfold maxLen; omega))) (Nat.le_refl _) h1 h2
theorem results24 : Try.f24.results = #[ResultVar.cell 2 27, ResultVar.tmp 3, ResultVar.tmp 4] := by kernel_rfl
/-- The boxes of the text and of the answer. -/
structure RB (w : World) (t : ByteArray) (W : World) : Prop where
  box : W.heap[w.heap.size]? = some (.cells #[.string t] 9 (0, 0))
  res : W.heap[w.heap.size + 1]? = some (.cells #[.slice none 0 0, .slice none 0 0] 27 (0, 0))
  below : Below w.heap.size w W
theorem RB.next {w W W' : World} {t : ByteArray} (h : RB w t W) (hb : Below W.heap.size W W') : RB w t W' :=
  ⟨(hb.block _ (lt_of_block h.box)).trans h.box, (hb.block _ (lt_of_block h.res)).trans h.res, Below.link' h.below hb⟩
theorem RB.drew {w W : World} {t : ByteArray} (h : RB w t W) : RB w t W.drew := ⟨h.box, h.res, h.below.drew⟩
theorem RB.set {w W : World} {t : ByteArray} {q i : Nat} {u : Value} (h : RB w t W) (hq : w.heap.size + 1 < q) : RB w t (W.setCell ⟨q, i, none⟩ u) :=
  ⟨heap_set_ne (by show w.heap.size ≠ q; omega) h.box, heap_set_ne (by show w.heap.size + 1 ≠ q; omega) h.res, h.below.setCell (p := ⟨q, i, none⟩) (by show _ ≤ q; omega) _⟩
theorem own_nq {w : World} {a b : Nat} {cs ds : Array Value} {t u : TypeId} {m n : Nat × Nat} (h : w.heap[a]? = some (.cells cs t m)) (k : w.heap[b]? = some (.cells ds u n)) (ht : t ≠ u) : a ≠ b := by
  rintro rfl
  rw [h] at k
  simp only [Option.some.injEq, Obj.cells.injEq] at k
  exact ht k.2.1
theorem two_set {w : World} {b : Nat} {p q u v : Value} {t : TypeId} {m : Nat × Nat} (h : w.heap[b]? = some (.cells #[p, q] t m)) : ((w.setCell ⟨b, 0, none⟩ u).setCell ⟨b, 1, none⟩ v).heap[b]? = some (.cells #[u, v] t m) := by
  have h1 := heap_set_eq (u := u) (i := 0) h (by simp)
  have h2 := heap_set_eq (u := v) (i := 1) h1 (by simp)
  simpa using h2
theorem und23 : Try.prog.underlying 23 = some (.slice 4) := by kernel_rfl
theorem info4 : (Try.prog.info? 4).map (fun i => (i.zero, i.size, i.bytes)) = some (some (.bool false), 1, 1) := by kernel_rfl
theorem rbq {w W : World} {t : ByteArray} (h : RB w t W) : W.cell? ⟨w.heap.size, 0, none⟩ = some (.string t) ∧ W.cell? ⟨w.heap.size + 1, 0, none⟩ = some (.slice none 0 0) ∧ W.cell? ⟨w.heap.size + 1, 1, none⟩ = some (.slice none 0 0) ∧ W.frozen? ⟨w.heap.size + 1, 0, none⟩ = false ∧ W.frozen? ⟨w.heap.size + 1, 1, none⟩ = false ∧ W.frozen? ⟨w.heap.size, 0, none⟩ = false :=
  ⟨by have := cells_of h.box 0; simpa using this, by have := cells_of h.res 0; simpa using this, by have := cells_of h.res 1; simpa using this, free_of h.res 0, free_of h.res 1, free_of h.box 0⟩
/-- What stands in memory behind the loop. -/
structure KX (w : World) (t : ByteArray) (q1 q2 mb x y : Nat) (a1 a2 : List Bool) (U : World) : Prop where
  rb : RB w t U
  c1 : U.heap[q1]? = some (.cells (bcells a1).toArray 4 (0, 0))
  c2 : U.heap[q2]? = some (.cells (bcells a2).toArray 4 (0, 0))
  m : U.heap[mb]? = some (.cells #[.slice (some ⟨q1, 0, none⟩) x x, .slice (some ⟨q2, 0, none⟩) y y] 27 (0, 0))
theorem KX.next {w U U' : World} {t : ByteArray} {q1 q2 mb x y : Nat} {a1 a2 : List Bool} (h : KX w t q1 q2 mb x y a1 a2 U) (hb : Below U.heap.size U U') : KX w t q1 q2 mb x y a1 a2 U' :=
  ⟨h.rb.next hb, (hb.block _ (lt_of_block h.c1)).trans h.c1, (hb.block _ (lt_of_block h.c2)).trans h.c2, (hb.block _ (lt_of_block h.m)).trans h.m⟩
set_option maxRecDepth 1000000 in
set_option maxHeartbeats 6400000 in
theorem readMap_any (s : ByteArray) (w : World) : Calls Try.prog 24 #[.string s] w (RAns w (readM (L s))) := by
  refine (callsIn_wide (n := 8)).1 ?_
  refine callsIn_of_wp_marks Try.func24 rfl trivial ?_ rfl
  refine wpIn_wide.2 ?_
  simp only [Try.ntmps24, List.size_toArray, List.length_cons, List.length_nil, Nat.reduceAdd, Nat.reduceSub, Array.replicate_succ, Array.replicate_zero, List.push_toArray, List.append_toArray, List.nil_append, List.cons_append]
  by_cases hs : s.size < 2
  · have hr : readM (L s) = .no 5 := by
      have : (L s).length < 2 := by rw [← size_L]; exact hs
      match L s, this with
      | [], _ => rfl
      | [_], _ => rfl
    rw [hr]
    have hsi : (s.size : Int) < 2 := by omega
    have HB := Lib.hid (((Below.refl _ w).alloc (Nat.le_refl _) (.cells #[.string s] 9)).alloc (by simp) (.cells #[.slice none 0 0, .slice none 0 0] 27))
    clear hr
    go_wp2
    refine ⟨.tuple #[.agg #[.slice none 0 0, .slice none 0 0], .string ⟨#[]⟩, .int .i64 5], by simp [results, results24, go_sem], HB.out, rfl⟩
  · have h0 : 0 < s.size := by omega
    have h1 : 1 < s.size := by omega
    have HT := Lib.hid (L_two h0 h1)
    rw [L_two h0 h1]
    have h0i : (0 : Int) < (s.size : Int) := by omega
    have h1i : (1 : Int) < (s.size : Int) := by omega
    have h2i : ¬ (s.size : Int) < 2 := by omega
    have h2i' : (2 : Int) ≤ (s.size : Int) := by omega
    have hx : (s[0]'h0).toNat < 256 := (s[0]'h0).toNat_lt
    have hy : (s[1]'h1).toNat < 256 := (s[1]'h1).toNat_lt
    obtain ⟨R, hR⟩ : ∃ R, readM (s[0]'h0 :: s[1]'h1 :: L (s.extract 2 s.size)) = R := ⟨_, rfl⟩
    rw [hR]
    rw [readM_two] at hR
    obtain ⟨x, hxe⟩ : ∃ x, (s[0]'h0).toNat = x := ⟨_, rfl⟩
    obtain ⟨y, hye⟩ : ∃ y, (s[1]'h1).toNat = y := ⟨_, rfl⟩
    rw [hxe] at hx hR
    rw [hye] at hy hR
    obtain ⟨t, ht⟩ : ∃ t, s.extract 2 s.size = t := ⟨_, rfl⟩
    rw [ht] at hR
    have HR := Lib.hid hR
    clear hR HT
    have HRB := Lib.hid (show RB w s ((w.alloc (.cells #[.string s] 9)).alloc (.cells #[.slice none 0 0, .slice none 0 0] 27)) from
      ⟨heap_alloc_lt (heap_new w _), by have := heap_new (w.alloc (.cells #[.string s] 9)) (.cells #[.slice none 0 0, .slice none 0 0] 27); rwa [World.size_alloc] at this, ((Below.refl _ w).alloc (Nat.le_refl _) (.cells #[.string s] 9)).alloc (by simp) (.cells #[.slice none 0 0, .slice none 0 0] 27)⟩)
    go_upto_region 3 with fail
    obtain ⟨W1, hW1⟩ : ∃ W, ((w.alloc (.cells #[.string s] 9)).alloc (.cells #[.slice none 0 0, .slice none 0 0] 27)) = W := ⟨_, rfl⟩
    rw [hW1] at HRB ⊢
    clear hW1
    obtain ⟨q0, q1, q2, f1, f2, f0⟩ := rbq HRB.out
    go_cut [5, 6] from 65 (fun va vb wx => va = .int .i64 (x : Int) ∧ vb = .int .i64 (y : Int) ∧ RB w t wx)
    case first =>
      go_region
      go_wp2
      go_meet
      case rel => exact ⟨rfl, rfl, by have := heap_set_eq (u := .string t) (i := 0) HRB.out.box (by simp); show (W1.setCell ⟨w.heap.size, 0, none⟩ (.string t)).heap[w.heap.size]? = _; simpa using this, heap_set_ne (by show w.heap.size + 1 ≠ w.heap.size; omega) HRB.out.res, (HRB.out.below.setCell (p := ⟨w.heap.size, 0, none⟩) (Nat.le_refl _) _).drew⟩
    obtain ⟨rfl, rfl, hrb⟩ := hcut
    obtain ⟨V, hV⟩ : ∃ V, V = wc := ⟨_, rfl⟩
    subst hV
    have TV := hrb
    have HRV := Lib.hid hrb
    clear hrb HRB q0 q1 q2 f1 f2 f0 hxe hye ht h2i h0 h1 h0i h1i h2i' hs
    by_cases hl : 64 < x ∨ 64 < y
    · have HR2 := Lib.hid (show RM.no 2 = R by rw [← HR.out, if_pos hl])
      have hd : decide (64 < x ∨ 64 < y) = true := decide_eq_true hl
      have HD := Lib.hid hd
      clear hd hl HR
      obtain ⟨q0, q1, q2, f1, f2, f0⟩ := rbq TV
      clear TV
      go_wp2_with fail
      refine (isLong_in x y true HD.out _ (by omega) (by omega)).mono ?_
      rintro e w5 ⟨rfl, hw5⟩
      rw [hw5]
      clear hw5 w5
      go_wp2
      refine ⟨.tuple #[.agg #[.slice none 0 0, .slice none 0 0], .string ⟨#[]⟩, .int .i64 2], by simp [results, results24, go_sem, q1, q2], ?_, ?_⟩
      · exact (HRV.out.below.setCell (p := ⟨w.heap.size + 1, 0, none⟩) (by show _ ≤ w.heap.size + 1; omega) _).setCell (p := ⟨w.heap.size + 1, 1, none⟩) (by show _ ≤ w.heap.size + 1; omega) _
      · rw [← HR2.out]
        rfl
    · have hd : decide (64 < x ∨ 64 < y) = false := decide_eq_false hl
      have HR1 := Lib.hid (show (if (L t).length < szB (x + y) then RM.no 5 else if packB (bitsN (L t) (x + y)) = List.take (szB (x + y)) (L t) then RM.yes (List.take x (bitsN (L t) (x + y)), List.drop x (bitsN (L t) (x + y))) (List.drop (szB (x + y)) (L t)) else RM.no 4) = R by rw [← HR.out, if_neg hl])
      have HD := Lib.hid hd
      have hx4 : x ≤ 64 := by omega
      have hy4 : y ≤ 64 := by omega
      clear hd hl HR
      go_wp2_with fail
      refine (isLong_in x y false HD.out _ (by omega) (by omega)).mono ?_
      rintro e w5 ⟨rfl, hw5⟩
      rw [hw5]
      clear hw5 w5 HD
      go_upto_region 6 with fail
      go_cut [7] from 65 (fun va wx => ∃ q1 q2 mb, va = .pointer (some ⟨mb, 0, none⟩) ∧ RB w t wx ∧ wx.heap[q1]? = some (.cells (List.replicate x (.bool false)).toArray 4 (0, 0)) ∧ wx.heap[q2]? = some (.cells (List.replicate y (.bool false)).toArray 4 (0, 0)) ∧ wx.heap[mb]? = some (.cells #[.slice (some ⟨q1, 0, none⟩) x x, .slice (some ⟨q2, 0, none⟩) y y] 27 (0, 0)) ∧ q1 ≠ q2 ∧ w.heap.size + 1 < q1 ∧ w.heap.size + 1 < q2 ∧ w.heap.size + 1 < mb)
      case first => as_aux_lemma =>
        refine wp_normal ?_
        have T0 := TV.drew
        refine wp_region_held_drew (S := fun W => RB w t W) (by kernel_rfl) T0 (fun hS0 => ?_)
        refine wpAnyH_take (i := 0) (oi := ({ dst := some 27, op := Op.move (Operand.tmp 5), type := 3, pos := "bits.go:62", after := #[], guard := none } : Oper)) (v := ?av1) rfl (by kernel_rfl) (by kernel_rfl) (by kernel_rfl) (fun _ _ _ h => h) (Or.inl ⟨by rfl, ?ay1⟩) T0 ?_
        case ay1 => (intro V hSw; go_simp; try with_reducible rfl)
        try simp only [Act.put, List.setIfInBounds_toArray, List.set_cons_zero, List.set_cons_succ]
        refine wpAnyH_take (i := 2) (oi := ({ dst := some 29, op := Op.move (Operand.tmp 6), type := 3, pos := "bits.go:62", after := #[], guard := none } : Oper)) (v := ?av2) rfl (by kernel_rfl) (by kernel_rfl) (by kernel_rfl) (fun _ _ _ h => h) (Or.inl ⟨by rfl, ?ay2⟩) T0 ?_
        case ay2 => (intro V hSw; go_simp; try with_reducible rfl)
        try simp only [Act.put, List.setIfInBounds_toArray, List.set_cons_zero, List.set_cons_succ]
        refine wpAnyH_ready (rs := [1, 3, 5]) (by kernel_rfl) (by simp) ?_
        refine (AllReadyH.cons (o := _) rfl (fun K hK => ?_) (AllReadyH.cons (o := _) rfl (fun K hK => ?_) (AllReadyH.cons (o := _) rfl (fun K hK => ?_) AllReadyH.nil)))
        · obtain ⟨w3, hmk3, hcs3, hb3⟩ := make_row (V.drew) 23 4 _ _ x und23 info4 rfl (by omega) (by omega)
          go_simp
          clear hmk3
          try simp only [World.size_alloc, drew_size] at hcs3
          have gz1 : w.heap.size + 1 < V.heap.size := by have := lt_of_block T0.res; simpa using this
          have T3 : RB w t w3 := T0.next hb3
          try go_wp2_with fail
          refine hK.out _ _ T3 (fun hS3 => ?_)
          clear hK K
          try simp only [Act.put, List.setIfInBounds_toArray, List.set_cons_zero, List.set_cons_succ]
          refine wpAnyH_ready (rs := [3, 5]) (by kernel_rfl) (by simp) ?_
          refine (AllReadyH.cons (o := _) rfl (fun K hK => ?_) (AllReadyH.cons (o := _) rfl (fun K hK => ?_) AllReadyH.nil))
          · obtain ⟨w4, hmk4, hcs4, hb4⟩ := make_row (w3) 23 4 _ _ y und23 info4 rfl (by omega) (by omega)
            go_simp
            clear hmk4
            try simp only [World.size_alloc, drew_size] at hcs4
            have lz2 : V.heap.size < w3.heap.size := by have := lt_of_block hcs3; simpa using this
            have c1z3 := (hb4.block _ (lt_of_block hcs3)).trans hcs3
            clear hcs3
            have gz4 : w.heap.size + 1 < w3.heap.size := by have := lt_of_block T3.res; simpa using this
            have T4 : RB w t w4 := T3.next hb4
            try go_wp2_with fail
            refine hK.out _ _ T4 (fun hS4 => ?_)
            clear hK K
            try simp only [Act.put, List.setIfInBounds_toArray, List.set_cons_zero, List.set_cons_succ]
            refine wpAnyH_take (i := 4) (oi := ({ dst := some 31, op := Op.build 27 #[(0, Operand.tmp 28), (1, Operand.tmp 30)], type := 27, pos := "bits.go:62", after := #[{ on := 1, ground := Ground.data }, { on := 3, ground := Ground.data }], guard := none } : Oper)) (v := ?av5) rfl (by kernel_rfl) (by kernel_rfl) (by kernel_rfl) (fun _ _ _ h => h) (Or.inl ⟨by rfl, ?ay5⟩) T4 ?_
            case ay5 => (intro V hSw; go_simp; try with_reducible rfl)
            try simp only [Act.put, List.setIfInBounds_toArray, List.set_cons_zero, List.set_cons_succ]
            refine wpAnyH_ready (rs := [5]) (by kernel_rfl) (by simp) ?_
            refine (AllReadyH.cons (o := _) rfl (fun K hK => ?_) AllReadyH.nil)
            go_simp
            have c1z5 := heap_alloc_lt (o := .cells #[.slice none 0 0, .slice none 0 0] 27) c1z3
            have c2z6 := heap_alloc_lt (o := .cells #[.slice none 0 0, .slice none 0 0] 27) hcs4
            have mz7 := heap_new (w4) (.cells #[.slice none 0 0, .slice none 0 0] 27)
            have gz8 := lt_of_block T4.res
            have T6 := T4.next ((Below.refl _ _).alloc (Nat.le_refl _) (.cells #[.slice none 0 0, .slice none 0 0] 27))
            try go_wp2_with fail
            refine hK.out _ _ T6 (fun hS6 => ?_)
            clear hK K
            try simp only [Act.put, List.setIfInBounds_toArray, List.set_cons_zero, List.set_cons_succ]
            refine wpAnyH_ready (rs := [6]) (by kernel_rfl) (by simp) ?_
            refine (AllReadyH.cons (o := _) rfl (fun K hK => ?_) AllReadyH.nil)
            have t0 := cells_of mz7 0
            have t1 := cells_of mz7 1
            have tf0 := free_of mz7 0
            have tf1 := free_of mz7 1
            simp only [List.getElem?_toArray, List.getElem?_cons_succ, List.getElem?_cons_zero] at t0 t1
            have tlt := lt_of_block mz7
            go_simp
            have T7 := T4.next ((Below.refl _ _).alloc (Nat.le_refl _) (.cells #[.slice (some ⟨V.heap.size, 0, none⟩) x x, .slice (some ⟨w3.heap.size, 0, none⟩) y y] 27))
            try go_wp2_with fail
            refine hK.out _ _ T7 (fun hS7 => ?_)
            clear hK K
            try simp only [Act.put, List.setIfInBounds_toArray, List.set_cons_zero, List.set_cons_succ]
            refine wpAnyH_done (by kernel_rfl) ?_ _
            go_wp2
            go_meet
            case rel => exact ⟨V.heap.size, w3.heap.size, w4.heap.size, rfl, T7, heap_alloc_lt (o := .cells #[.slice (some ⟨V.heap.size, 0, none⟩) x x, .slice (some ⟨w3.heap.size, 0, none⟩) y y] 27) c1z3, heap_alloc_lt (o := .cells #[.slice (some ⟨V.heap.size, 0, none⟩) x x, .slice (some ⟨w3.heap.size, 0, none⟩) y y] 27) hcs4, heap_new (w4) (.cells #[.slice (some ⟨V.heap.size, 0, none⟩) x x, .slice (some ⟨w3.heap.size, 0, none⟩) y y] 27), by omega, gz1, gz4, gz8⟩
          · go_simp
            have c1z9 := heap_alloc_lt (o := .cells #[.slice none 0 0, .slice none 0 0] 27) hcs3
            have mz10 := heap_new (w3) (.cells #[.slice none 0 0, .slice none 0 0] 27)
            have gz11 := lt_of_block T3.res
            have T8 := T3.next ((Below.refl _ _).alloc (Nat.le_refl _) (.cells #[.slice none 0 0, .slice none 0 0] 27))
            try go_wp2_with fail
            refine hK.out _ _ T8 (fun hS8 => ?_)
            clear hK K
            try simp only [Act.put, List.setIfInBounds_toArray, List.set_cons_zero, List.set_cons_succ]
            refine wpAnyH_ready (rs := [3]) (by kernel_rfl) (by simp) ?_
            refine (AllReadyH.cons (o := _) rfl (fun K hK => ?_) AllReadyH.nil)
            obtain ⟨w9, hmk9, hcs9, hb9⟩ := make_row ((w3).alloc (.cells #[.slice none 0 0, .slice none 0 0] 27)) 23 4 _ _ y und23 info4 rfl (by omega) (by omega)
            go_simp
            clear hmk9
            try simp only [World.size_alloc, drew_size] at hcs9
            have lz12 : V.heap.size < w3.heap.size + 1 := by have := lt_of_block c1z9; simpa using this
            have c1z13 := (hb9.block _ (lt_of_block c1z9)).trans c1z9
            clear c1z9
            have mz14 := (hb9.block _ (lt_of_block mz10)).trans mz10
            clear mz10
            have gz15 : w.heap.size + 1 < w3.heap.size + 1 := by have := lt_of_block T8.res; simpa using this
            have T9 : RB w t w9 := T8.next hb9
            try go_wp2_with fail
            refine hK.out _ _ T9 (fun hS9 => ?_)
            clear hK K
            try simp only [Act.put, List.setIfInBounds_toArray, List.set_cons_zero, List.set_cons_succ]
            refine wpAnyH_take (i := 4) (oi := ({ dst := some 31, op := Op.build 27 #[(0, Operand.tmp 28), (1, Operand.tmp 30)], type := 27, pos := "bits.go:62", after := #[{ on := 1, ground := Ground.data }, { on := 3, ground := Ground.data }], guard := none } : Oper)) (v := ?av10) rfl (by kernel_rfl) (by kernel_rfl) (by kernel_rfl) (fun _ _ _ h => h) (Or.inl ⟨by rfl, ?ay10⟩) T9 ?_
            case ay10 => (intro V hSw; go_simp; try with_reducible rfl)
            try simp only [Act.put, List.setIfInBounds_toArray, List.set_cons_zero, List.set_cons_succ]
            refine wpAnyH_ready (rs := [6]) (by kernel_rfl) (by simp) ?_
            refine (AllReadyH.cons (o := _) rfl (fun K hK => ?_) AllReadyH.nil)
            have t0 := cells_of mz14 0
            have t1 := cells_of mz14 1
            have tf0 := free_of mz14 0
            have tf1 := free_of mz14 1
            simp only [List.getElem?_toArray, List.getElem?_cons_succ, List.getElem?_cons_zero] at t0 t1
            have tlt := lt_of_block mz14
            go_simp
            have T11 := (T9.set (i := 0) (u := .slice (some ⟨V.heap.size, 0, none⟩) x x) gz11).set (i := 1) (u := .slice (some ⟨w3.heap.size + 1, 0, none⟩) y y) gz11
            try go_wp2_with fail
            refine hK.out _ _ T11 (fun hS11 => ?_)
            clear hK K
            try simp only [Act.put, List.setIfInBounds_toArray, List.set_cons_zero, List.set_cons_succ]
            refine wpAnyH_done (by kernel_rfl) ?_ _
            go_wp2
            go_meet
            case rel => exact ⟨V.heap.size, w3.heap.size + 1, w3.heap.size, rfl, T11, heap_set_ne (own_nq c1z13 mz14 (by decide)) (heap_set_ne (own_nq c1z13 mz14 (by decide)) c1z13), heap_set_ne (own_nq hcs9 mz14 (by decide)) (heap_set_ne (own_nq hcs9 mz14 (by decide)) hcs9), two_set mz14, by omega, gz1, gz15, gz11⟩
        · obtain ⟨w12, hmk12, hcs12, hb12⟩ := make_row (V.drew) 23 4 _ _ y und23 info4 rfl (by omega) (by omega)
          go_simp
          clear hmk12
          try simp only [World.size_alloc, drew_size] at hcs12
          have gz16 : w.heap.size + 1 < V.heap.size := by have := lt_of_block T0.res; simpa using this
          have T12 : RB w t w12 := T0.next hb12
          try go_wp2_with fail
          refine hK.out _ _ T12 (fun hS12 => ?_)
          clear hK K
          try simp only [Act.put, List.setIfInBounds_toArray, List.set_cons_zero, List.set_cons_succ]
          refine wpAnyH_ready (rs := [1, 5]) (by kernel_rfl) (by simp) ?_
          refine (AllReadyH.cons (o := _) rfl (fun K hK => ?_) (AllReadyH.cons (o := _) rfl (fun K hK => ?_) AllReadyH.nil))
          · obtain ⟨w13, hmk13, hcs13, hb13⟩ := make_row (w12) 23 4 _ _ x und23 info4 rfl (by omega) (by omega)
            go_simp
            clear hmk13
            try simp only [World.size_alloc, drew_size] at hcs13
            have lz17 : V.heap.size < w12.heap.size := by have := lt_of_block hcs12; simpa using this
            have c2z18 := (hb13.block _ (lt_of_block hcs12)).trans hcs12
            clear hcs12
            have gz19 : w.heap.size + 1 < w12.heap.size := by have := lt_of_block T12.res; simpa using this
            have T13 : RB w t w13 := T12.next hb13
            try go_wp2_with fail
            refine hK.out _ _ T13 (fun hS13 => ?_)
            clear hK K
            try simp only [Act.put, List.setIfInBounds_toArray, List.set_cons_zero, List.set_cons_succ]
            refine wpAnyH_take (i := 4) (oi := ({ dst := some 31, op := Op.build 27 #[(0, Operand.tmp 28), (1, Operand.tmp 30)], type := 27, pos := "bits.go:62", after := #[{ on := 1, ground := Ground.data }, { on := 3, ground := Ground.data }], guard := none } : Oper)) (v := ?av14) rfl (by kernel_rfl) (by kernel_rfl) (by kernel_rfl) (fun _ _ _ h => h) (Or.inl ⟨by rfl, ?ay14⟩) T13 ?_
            case ay14 => (intro V hSw; go_simp; try with_reducible rfl)
            try simp only [Act.put, List.setIfInBounds_toArray, List.set_cons_zero, List.set_cons_succ]
            refine wpAnyH_ready (rs := [5]) (by kernel_rfl) (by simp) ?_
            refine (AllReadyH.cons (o := _) rfl (fun K hK => ?_) AllReadyH.nil)
            go_simp
            have c1z20 := heap_alloc_lt (o := .cells #[.slice none 0 0, .slice none 0 0] 27) hcs13
            have c2z21 := heap_alloc_lt (o := .cells #[.slice none 0 0, .slice none 0 0] 27) c2z18
            have mz22 := heap_new (w13) (.cells #[.slice none 0 0, .slice none 0 0] 27)
            have gz23 := lt_of_block T13.res
            have T15 := T13.next ((Below.refl _ _).alloc (Nat.le_refl _) (.cells #[.slice none 0 0, .slice none 0 0] 27))
            try go_wp2_with fail
            refine hK.out _ _ T15 (fun hS15 => ?_)
            clear hK K
            try simp only [Act.put, List.setIfInBounds_toArray, List.set_cons_zero, List.set_cons_succ]
            refine wpAnyH_ready (rs := [6]) (by kernel_rfl) (by simp) ?_
            refine (AllReadyH.cons (o := _) rfl (fun K hK => ?_) AllReadyH.nil)
            have t0 := cells_of mz22 0
            have t1 := cells_of mz22 1
            have tf0 := free_of mz22 0
            have tf1 := free_of mz22 1
            simp only [List.getElem?_toArray, List.getElem?_cons_succ, List.getElem?_cons_zero] at t0 t1
            have tlt := lt_of_block mz22
            go_simp
            have T16 := T13.next ((Below.refl _ _).alloc (Nat.le_refl _) (.cells #[.slice (some ⟨w12.heap.size, 0, none⟩) x x, .slice (some ⟨V.heap.size, 0, none⟩) y y] 27))
            try go_wp2_with fail
            refine hK.out _ _ T16 (fun hS16 => ?_)
            clear hK K
            try simp only [Act.put, List.setIfInBounds_toArray, List.set_cons_zero, List.set_cons_succ]
            refine wpAnyH_done (by kernel_rfl) ?_ _
            go_wp2
            go_meet
            case rel => exact ⟨w12.heap.size, V.heap.size, w13.heap.size, rfl, T16, heap_alloc_lt (o := .cells #[.slice (some ⟨w12.heap.size, 0, none⟩) x x, .slice (some ⟨V.heap.size, 0, none⟩) y y] 27) hcs13, heap_alloc_lt (o := .cells #[.slice (some ⟨w12.heap.size, 0, none⟩) x x, .slice (some ⟨V.heap.size, 0, none⟩) y y] 27) c2z18, heap_new (w13) (.cells #[.slice (some ⟨w12.heap.size, 0, none⟩) x x, .slice (some ⟨V.heap.size, 0, none⟩) y y] 27), by omega, gz19, gz16, gz23⟩
          · go_simp
            have c2z24 := heap_alloc_lt (o := .cells #[.slice none 0 0, .slice none 0 0] 27) hcs12
            have mz25 := heap_new (w12) (.cells #[.slice none 0 0, .slice none 0 0] 27)
            have gz26 := lt_of_block T12.res
            have T17 := T12.next ((Below.refl _ _).alloc (Nat.le_refl _) (.cells #[.slice none 0 0, .slice none 0 0] 27))
            try go_wp2_with fail
            refine hK.out _ _ T17 (fun hS17 => ?_)
            clear hK K
            try simp only [Act.put, List.setIfInBounds_toArray, List.set_cons_zero, List.set_cons_succ]
            refine wpAnyH_ready (rs := [1]) (by kernel_rfl) (by simp) ?_
            refine (AllReadyH.cons (o := _) rfl (fun K hK => ?_) AllReadyH.nil)
            obtain ⟨w18, hmk18, hcs18, hb18⟩ := make_row ((w12).alloc (.cells #[.slice none 0 0, .slice none 0 0] 27)) 23 4 _ _ x und23 info4 rfl (by omega) (by omega)
            go_simp
            clear hmk18
            try simp only [World.size_alloc, drew_size] at hcs18
            have lz27 : V.heap.size < w12.heap.size + 1 := by have := lt_of_block c2z24; simpa using this
            have c2z28 := (hb18.block _ (lt_of_block c2z24)).trans c2z24
            clear c2z24
            have mz29 := (hb18.block _ (lt_of_block mz25)).trans mz25
            clear mz25
            have gz30 : w.heap.size + 1 < w12.heap.size + 1 := by have := lt_of_block T17.res; simpa using this
            have T18 : RB w t w18 := T17.next hb18
            try go_wp2_with fail
            refine hK.out _ _ T18 (fun hS18 => ?_)
            clear hK K
            try simp only [Act.put, List.setIfInBounds_toArray, List.set_cons_zero, List.set_cons_succ]
            refine wpAnyH_take (i := 4) (oi := ({ dst := some 31, op := Op.build 27 #[(0, Operand.tmp 28), (1, Operand.tmp 30)], type := 27, pos := "bits.go:62", after := #[{ on := 1, ground := Ground.data }, { on := 3, ground := Ground.data }], guard := none } : Oper)) (v := ?av19) rfl (by kernel_rfl) (by kernel_rfl) (by kernel_rfl) (fun _ _ _ h => h) (Or.inl ⟨by rfl, ?ay19⟩) T18 ?_
            case ay19 => (intro V hSw; go_simp; try with_reducible rfl)
            try simp only [Act.put, List.setIfInBounds_toArray, List.set_cons_zero, List.set_cons_succ]
            refine wpAnyH_ready (rs := [6]) (by kernel_rfl) (by simp) ?_
            refine (AllReadyH.cons (o := _) rfl (fun K hK => ?_) AllReadyH.nil)
            have t0 := cells_of mz29 0
            have t1 := cells_of mz29 1
            have tf0 := free_of mz29 0
            have tf1 := free_of mz29 1
            simp only [List.getElem?_toArray, List.getElem?_cons_succ, List.getElem?_cons_zero] at t0 t1
            have tlt := lt_of_block mz29
            go_simp
            have T20 := (T18.set (i := 0) (u := .slice (some ⟨w12.heap.size + 1, 0, none⟩) x x) gz26).set (i := 1) (u := .slice (some ⟨V.heap.size, 0, none⟩) y y) gz26
            try go_wp2_with fail
            refine hK.out _ _ T20 (fun hS20 => ?_)
            clear hK K
            try simp only [Act.put, List.setIfInBounds_toArray, List.set_cons_zero, List.set_cons_succ]
            refine wpAnyH_done (by kernel_rfl) ?_ _
            go_wp2
            go_meet
            case rel => exact ⟨w12.heap.size + 1, V.heap.size, w12.heap.size, rfl, T20, heap_set_ne (own_nq hcs18 mz29 (by decide)) (heap_set_ne (own_nq hcs18 mz29 (by decide)) hcs18), heap_set_ne (own_nq c2z28 mz29 (by decide)) (heap_set_ne (own_nq c2z28 mz29 (by decide)) c2z28), two_set mz29, by omega, gz30, gz16, gz26⟩
        · go_simp
          have mz31 : ((V.alloc (.cells #[.slice none 0 0, .slice none 0 0] 27)).drew).heap[V.heap.size]? = some (.cells #[.slice none 0 0, .slice none 0 0] 27 (0, 0)) := heap_new V (.cells #[.slice none 0 0, .slice none 0 0] 27)
          have gz32 := lt_of_block T0.res
          have T21 : RB w t ((V.alloc (.cells #[.slice none 0 0, .slice none 0 0] 27)).drew) := T0.next ((Below.refl _ _).alloc (Nat.le_refl _) (.cells #[.slice none 0 0, .slice none 0 0] 27))
          try go_wp2_with fail
          refine hK.out _ _ T21 (fun hS21 => ?_)
          clear hK K
          try simp only [Act.put, List.setIfInBounds_toArray, List.set_cons_zero, List.set_cons_succ]
          refine wpAnyH_ready (rs := [1, 3]) (by kernel_rfl) (by simp) ?_
          refine (AllReadyH.cons (o := _) rfl (fun K hK => ?_) (AllReadyH.cons (o := _) rfl (fun K hK => ?_) AllReadyH.nil))
          · obtain ⟨w22, hmk22, hcs22, hb22⟩ := make_row ((V.alloc (.cells #[.slice none 0 0, .slice none 0 0] 27)).drew) 23 4 _ _ x und23 info4 rfl (by omega) (by omega)
            go_simp
            clear hmk22
            try simp only [World.size_alloc, drew_size] at hcs22
            have mz33 := (hb22.block _ (lt_of_block mz31)).trans mz31
            clear mz31
            have gz34 : w.heap.size + 1 < V.heap.size + 1 := by have := lt_of_block T21.res; simpa using this
            have T22 : RB w t w22 := T21.next hb22
            try go_wp2_with fail
            refine hK.out _ _ T22 (fun hS22 => ?_)
            clear hK K
            try simp only [Act.put, List.setIfInBounds_toArray, List.set_cons_zero, List.set_cons_succ]
            refine wpAnyH_ready (rs := [3]) (by kernel_rfl) (by simp) ?_
            refine (AllReadyH.cons (o := _) rfl (fun K hK => ?_) AllReadyH.nil)
            obtain ⟨w23, hmk23, hcs23, hb23⟩ := make_row (w22) 23 4 _ _ y und23 info4 rfl (by omega) (by omega)
            go_simp
            clear hmk23
            try simp only [World.size_alloc, drew_size] at hcs23
            have lz35 : V.heap.size + 1 < w22.heap.size := by have := lt_of_block hcs22; simpa using this
            have c1z36 := (hb23.block _ (lt_of_block hcs22)).trans hcs22
            clear hcs22
            have mz37 := (hb23.block _ (lt_of_block mz33)).trans mz33
            clear mz33
            have gz38 : w.heap.size + 1 < w22.heap.size := by have := lt_of_block T22.res; simpa using this
            have T23 : RB w t w23 := T22.next hb23
            try go_wp2_with fail
            refine hK.out _ _ T23 (fun hS23 => ?_)
            clear hK K
            try simp only [Act.put, List.setIfInBounds_toArray, List.set_cons_zero, List.set_cons_succ]
            refine wpAnyH_take (i := 4) (oi := ({ dst := some 31, op := Op.build 27 #[(0, Operand.tmp 28), (1, Operand.tmp 30)], type := 27, pos := "bits.go:62", after := #[{ on := 1, ground := Ground.data }, { on := 3, ground := Ground.data }], guard := none } : Oper)) (v := ?av24) rfl (by kernel_rfl) (by kernel_rfl) (by kernel_rfl) (fun _ _ _ h => h) (Or.inl ⟨by rfl, ?ay24⟩) T23 ?_
            case ay24 => (intro V hSw; go_simp; try with_reducible rfl)
            try simp only [Act.put, List.setIfInBounds_toArray, List.set_cons_zero, List.set_cons_succ]
            refine wpAnyH_ready (rs := [6]) (by kernel_rfl) (by simp) ?_
            refine (AllReadyH.cons (o := _) rfl (fun K hK => ?_) AllReadyH.nil)
            have t0 := cells_of mz37 0
            have t1 := cells_of mz37 1
            have tf0 := free_of mz37 0
            have tf1 := free_of mz37 1
            simp only [List.getElem?_toArray, List.getElem?_cons_succ, List.getElem?_cons_zero] at t0 t1
            have tlt := lt_of_block mz37
            go_simp
            have T25 := (T23.set (i := 0) (u := .slice (some ⟨V.heap.size + 1, 0, none⟩) x x) gz32).set (i := 1) (u := .slice (some ⟨w22.heap.size, 0, none⟩) y y) gz32
            try go_wp2_with fail
            refine hK.out _ _ T25 (fun hS25 => ?_)
            clear hK K
            try simp only [Act.put, List.setIfInBounds_toArray, List.set_cons_zero, List.set_cons_succ]
            refine wpAnyH_done (by kernel_rfl) ?_ _
            go_wp2
            go_meet
            case rel => exact ⟨V.heap.size + 1, w22.heap.size, V.heap.size, rfl, T25, heap_set_ne (own_nq c1z36 mz37 (by decide)) (heap_set_ne (own_nq c1z36 mz37 (by decide)) c1z36), heap_set_ne (own_nq hcs23 mz37 (by decide)) (heap_set_ne (own_nq hcs23 mz37 (by decide)) hcs23), two_set mz37, by omega, gz34, gz38, gz32⟩
          · obtain ⟨w26, hmk26, hcs26, hb26⟩ := make_row ((V.alloc (.cells #[.slice none 0 0, .slice none 0 0] 27)).drew) 23 4 _ _ y und23 info4 rfl (by omega) (by omega)
            go_simp
            clear hmk26
            try simp only [World.size_alloc, drew_size] at hcs26
            have mz39 := (hb26.block _ (lt_of_block mz31)).trans mz31
            clear mz31
            have gz40 : w.heap.size + 1 < V.heap.size + 1 := by have := lt_of_block T21.res; simpa using this
            have T26 : RB w t w26 := T21.next hb26
            try go_wp2_with fail
            refine hK.out _ _ T26 (fun hS26 => ?_)
            clear hK K
            try simp only [Act.put, List.setIfInBounds_toArray, List.set_cons_zero, List.set_cons_succ]
            refine wpAnyH_ready (rs := [1]) (by kernel_rfl) (by simp) ?_
            refine (AllReadyH.cons (o := _) rfl (fun K hK => ?_) AllReadyH.nil)
            obtain ⟨w27, hmk27, hcs27, hb27⟩ := make_row (w26) 23 4 _ _ x und23 info4 rfl (by omega) (by omega)
            go_simp
            clear hmk27
            try simp only [World.size_alloc, drew_size] at hcs27
            have lz41 : V.heap.size + 1 < w26.heap.size := by have := lt_of_block hcs26; simpa using this
            have c2z42 := (hb27.block _ (lt_of_block hcs26)).trans hcs26
            clear hcs26
            have mz43 := (hb27.block _ (lt_of_block mz39)).trans mz39
            clear mz39
            have gz44 : w.heap.size + 1 < w26.heap.size := by have := lt_of_block T26.res; simpa using this
            have T27 : RB w t w27 := T26.next hb27
            try go_wp2_with fail
            refine hK.out _ _ T27 (fun hS27 => ?_)
            clear hK K
            try simp only [Act.put, List.setIfInBounds_toArray, List.set_cons_zero, List.set_cons_succ]
            refine wpAnyH_take (i := 4) (oi := ({ dst := some 31, op := Op.build 27 #[(0, Operand.tmp 28), (1, Operand.tmp 30)], type := 27, pos := "bits.go:62", after := #[{ on := 1, ground := Ground.data }, { on := 3, ground := Ground.data }], guard := none } : Oper)) (v := ?av28) rfl (by kernel_rfl) (by kernel_rfl) (by kernel_rfl) (fun _ _ _ h => h) (Or.inl ⟨by rfl, ?ay28⟩) T27 ?_
            case ay28 => (intro V hSw; go_simp; try with_reducible rfl)
            try simp only [Act.put, List.setIfInBounds_toArray, List.set_cons_zero, List.set_cons_succ]
            refine wpAnyH_ready (rs := [6]) (by kernel_rfl) (by simp) ?_
            refine (AllReadyH.cons (o := _) rfl (fun K hK => ?_) AllReadyH.nil)
            have t0 := cells_of mz43 0
            have t1 := cells_of mz43 1
            have tf0 := free_of mz43 0
            have tf1 := free_of mz43 1
            simp only [List.getElem?_toArray, List.getElem?_cons_succ, List.getElem?_cons_zero] at t0 t1
            have tlt := lt_of_block mz43
            go_simp
            have T29 := (T27.set (i := 0) (u := .slice (some ⟨w26.heap.size, 0, none⟩) x x) gz32).set (i := 1) (u := .slice (some ⟨V.heap.size + 1, 0, none⟩) y y) gz32
            try go_wp2_with fail
            refine hK.out _ _ T29 (fun hS29 => ?_)
            clear hK K
            try simp only [Act.put, List.setIfInBounds_toArray, List.set_cons_zero, List.set_cons_succ]
            refine wpAnyH_done (by kernel_rfl) ?_ _
            go_wp2
            go_meet
            case rel => exact ⟨w26.heap.size, V.heap.size + 1, V.heap.size, rfl, T29, heap_set_ne (own_nq hcs27 mz43 (by decide)) (heap_set_ne (own_nq hcs27 mz43 (by decide)) hcs27), heap_set_ne (own_nq c2z42 mz43 (by decide)) (heap_set_ne (own_nq c2z42 mz43 (by decide)) c2z42), two_set mz43, by omega, gz44, gz40, gz32⟩
      obtain ⟨q1, q2, mb, rfl, hrb, d1, d2, dm, hq12, g1, g2, g3⟩ := hcut
      obtain ⟨V2, hV2⟩ : ∃ V, V = wc := ⟨_, rfl⟩
      subst hV2
      have m1 := cells_of dm 0
      have m2 := cells_of dm 1
      simp only [List.getElem?_toArray, List.getElem?_cons_succ, List.getElem?_cons_zero] at m1 m2
      have mlt := lt_of_block dm
      have H2 := Lib.hid hrb
      have D1 := Lib.hid d1
      have D2 := Lib.hid d2
      have DM := Lib.hid dm
      clear hrb d1 d2 dm HRV TV
      go_wp2_with fail
      refine (size_any _ _ x y x y _ (by omega) (by omega)).mono ?_
      rintro e V3 ⟨rfl, hb⟩
      have D1' := Lib.hid ((hb.block _ (lt_of_block D1.out)).trans D1.out)
      have D2' := Lib.hid ((hb.block _ (lt_of_block D2.out)).trans D2.out)
      have DM' := Lib.hid ((hb.block _ (lt_of_block DM.out)).trans DM.out)
      have H3 := Lib.hid (H2.out.next hb)
      clear m1 m2 mlt hb H2 D1 D2 DM
      have m1 := cells_of DM'.out 0
      have m2 := cells_of DM'.out 1
      simp only [List.getElem?_toArray, List.getElem?_cons_succ, List.getElem?_cons_zero] at m1 m2
      have mlt := lt_of_block DM'.out
      obtain ⟨p0, p1, p2, f1, f2, f0⟩ := rbq H3.out
      have HSZ := Lib.hid (size_L t)
      have hsz : szB (x + y) ≤ 16 := by unfold szB; omega
      have hsz8 : x + y ≤ 8 * szB (x + y) := by unfold szB; omega
      obtain ⟨z, hz⟩ : ∃ z, szB (x + y) = z := ⟨_, rfl⟩
      rw [hz] at HR1 hsz hsz8 ⊢
      have HZ := Lib.hid hz
      clear hz
      by_cases hts : t.size < z
      · have HR2 := Lib.hid (show RM.no 5 = R by rw [← HR1.out, if_pos (show (L t).length < z by rw [← HSZ.out]; exact hts)])
        have htsi : (t.size : Int) < (z : Int) := by omega
        clear hts HR1
        go_wp2
        refine ⟨.tuple #[.agg #[.slice none 0 0, .slice none 0 0], .string ⟨#[]⟩, .int .i64 5], by simp [results, results24, go_sem, p1, p2], ?_, ?_⟩
        · exact (H3.out.below.setCell (p := ⟨w.heap.size + 1, 0, none⟩) (by show _ ≤ w.heap.size + 1; omega) _).setCell (p := ⟨w.heap.size + 1, 1, none⟩) (by show _ ≤ w.heap.size + 1; omega) _
        · rw [← HR2.out]
          rfl
      · have HR2 := Lib.hid (show (if packB (bitsN (L t) (x + y)) = List.take z (L t) then RM.yes (List.take x (bitsN (L t) (x + y)), List.drop x (bitsN (L t) (x + y))) (List.drop z (L t)) else RM.no 4) = R by rw [← HR1.out, if_neg (show ¬ (L t).length < z by rw [← HSZ.out]; exact hts)])
        have htsi : ¬ (t.size : Int) < (z : Int) := by omega
        have hzt : z ≤ t.size := by omega
        clear hts HR1
        go_wp2_with fail
        refine (bits_any _ _ _).mono ?_
        rintro e V4 ⟨rfl, hw4⟩
        rw [hw4]
        have hb4 : Below V3.heap.size V3 (V3.alloc (.cells #[.slice (some ⟨q1, 0, none⟩) x x, .slice (some ⟨q2, 0, none⟩) y y] 27)) := (Below.refl _ _).alloc (Nat.le_refl _) _
        have hnb := heap_new V3 (.cells #[.slice (some ⟨q1, 0, none⟩) x x, .slice (some ⟨q2, 0, none⟩) y y] 27)
        have hszb : (V3.alloc (.cells #[.slice (some ⟨q1, 0, none⟩) x x, .slice (some ⟨q2, 0, none⟩) y y] 27)).heap.size = V3.heap.size + 1 := World.size_alloc _ _
        have e1 := (hb4.block _ (lt_of_block D1'.out)).trans D1'.out
        have e2 := (hb4.block _ (lt_of_block D2'.out)).trans D2'.out
        have em := (hb4.block _ (lt_of_block DM'.out)).trans DM'.out
        have H4 := H3.out.next hb4
        have l1 := lt_of_block D1'.out
        have l2 := lt_of_block D2'.out
        have l3 := lt_of_block DM'.out
        have l4 := lt_of_block H3.out.box
        obtain ⟨bm, hbm⟩ : ∃ b, V3.heap.size = b := ⟨_, rfl⟩
        obtain ⟨W0, hW0⟩ : ∃ W, (V3.alloc (.cells #[.slice (some ⟨q1, 0, none⟩) x x, .slice (some ⟨q2, 0, none⟩) y y] 27)) = W := ⟨_, rfl⟩
        rw [hbm] at hnb l1 l2 l3 l4 hszb ⊢
        rw [hW0] at hnb e1 e2 em H4 hszb ⊢
        clear hw4 hb4 m1 m2 mlt p0 p1 p2 f1 f2 f0 H3 D1' D2' DM' hbm hW0
        have m1 := cells_of hnb 0
        have m2 := cells_of hnb 1
        simp only [List.getElem?_toArray, List.getElem?_cons_succ, List.getElem?_cons_zero] at m1 m2
        have M1 := Lib.hid m1
        have M2 := Lib.hid m2
        have E1 := Lib.hid e1
        have E2 := Lib.hid e2
        have EM := Lib.hid em
        have H5 := Lib.hid H4
        clear m1 m2 e1 e2 em H4 hnb V3
        go_wp2_with fail
        refine (wpIn_wide (n := 8)).1 ?_
        have hbB := H5.out.below
        have k1 := E1.out
        have k2 := E2.out
        have k3 := EM.out
        have k4 := H5.out
        refine wpIn_rangeFunc_ownG rfl (by omega) (gf := 40) (lb := #[.pointer (some ⟨bm, 0, none⟩)]) rfl trivial (enters_of Try.func40 (by kernel_rfl) rfl)
          (iter_stops Fence.wide _ trivial rfl (by omega) (fun k => k = q1 ∨ k = q2) bm x y (x + y) x y (some ⟨q1, 0, none⟩) (some ⟨q2, 0, none⟩) (adrF (some ⟨q1, 0, none⟩) (some ⟨q2, 0, none⟩) x) W0 rfl (by omega) (fun k hk => by rcases hk with rfl | rfl <;> omega) (by omega) M1.out M2.out
            (fun i hi => ⟨q1, 0, rfl, adr_1 rfl hi⟩) (fun i hi => ⟨q2, 0, rfl, adr_2 rfl⟩))
          (fun h k => KpC.trans h k) kpC_b (Below.refl _ _) (fun _ => rfl)
          (fun pre W => RB w t W ∧ W.heap[q1]? = some (.cells (bcells ((getF (L t) pre).take x)).toArray 4 (0, 0)) ∧ W.heap[q2]? = some (.cells (bcells ((getF (L t) pre).drop x)).toArray 4 (0, 0)) ∧ W.heap[mb]? = some (.cells #[.slice (some ⟨q1, 0, none⟩) x x, .slice (some ⟨q2, 0, none⟩) y y] 27 (0, 0)))
          (fun _ _ _ => False)
          (fun s A C row hs hg hr => by
            have kp : ∀ k o, k < W0.heap.size → A.heap[k]? = some o → C.heap[k]? = some o := fun k o hk ho => (hg.block _ (Array.getElem?_eq_some_iff.1 ho).1 (fun e => by have := (hr _ e.symm).1; omega)).trans ho
            exact ⟨⟨kp _ _ (by omega) hs.1.box, kp _ _ (by omega) hs.1.res, hs.1.below.grown hg (by have := hs.1.below.size; omega) (fun k e => by have := (hr k e).1; omega)⟩, kp _ _ (by omega) hs.2.1, kp _ _ (by omega) hs.2.2.1, kp _ _ (by omega) hs.2.2.2⟩)
          (fun _ _ _ _ _ hs _ _ => hs)
          ⟨k4, by simpa [getF, bcells, List.take_replicate, Nat.min_eq_left (Nat.le_add_right x y)] using k1, by simpa [getF, bcells, List.drop_replicate] using k2, k3⟩
          (fun i => { tmps := #[.string s, .pointer (some ⟨w.heap.size, 0, none⟩), .pointer (some ⟨w.heap.size + 1, 0, none⟩), .string ⟨#[]⟩, .int .i64 0, .int .i64 (x : Int), .int .i64 (y : Int), .pointer (some ⟨mb, 0, none⟩), .int .i64 (z : Int), .int .i64 ((i.1 : Nat) : Int), .pointer (some (adrF (some ⟨q1, 0, none⟩) (some ⟨q2, 0, none⟩) x i.1)), .string s, .int .i64 (s.size : Int), .bool false, undef, u15, u16, u17, u18, u19, u20, u21, u22, .int .i64 (x : Int), .int .i64 (y : Int), .bool false, undef, u27, u28, u29, u30, u31, .agg #[.slice (some ⟨q1, 0, none⟩) x x, .slice (some ⟨q2, 0, none⟩) y y], .int .i64 (z : Int), .string t, .int .i64 (t.size : Int), .int .i64 (z : Int), .bool false, undef, .agg #[.slice (some ⟨q1, 0, none⟩) x x, .slice (some ⟨q2, 0, none⟩) y y], .func (.func 40) #[] #[.pointer (some ⟨bm, 0, none⟩)], .int .i64 ((i.1 : Nat) : Int), .pointer (some (adrF (some ⟨q1, 0, none⟩) (some ⟨q2, 0, none⟩) x i.1)), undef, undef, undef, undef, undef, undef, undef, undef, undef, undef, undef, undef, undef, undef, undef, undef, undef, undef, undef, undef, undef, undef], defers := [] }) ?assign ?body ?done ?stop
        case assign =>
          intro l i W K hK
          gi_wp2
          exact hK
        case body =>
          clear k1 k2 k3 k4 hbB
          rintro l pre i W ⟨hrb, s1, s2, s3⟩ _
          have hm := i.2
          have HS := Lib.hid (getF_snoc (L t) pre i)
          have hlen := getF_len (L t) pre
          obtain ⟨c0, hc0⟩ : ∃ c, getF (L t) pre = c := ⟨_, rfl⟩
          rw [hc0] at s1 s2 HS hlen
          obtain ⟨m, hmx⟩ : ∃ m, i.1 = m := ⟨_, rfl⟩
          rw [hmx] at hm HS ⊢
          obtain ⟨qb, qo, ea, hcs⟩ : ∃ qb qo, adrF (some ⟨q1, 0, none⟩) (some ⟨q2, 0, none⟩) x m = ⟨qb, qo, none⟩ ∧ ((qb = q1 ∧ qo = m ∧ m < x) ∨ (qb = q2 ∧ x ≤ m ∧ qo = m - x)) := by
            by_cases h : m < x
            · exact ⟨q1, m, by rw [adr_1 rfl h, Nat.zero_add], .inl ⟨rfl, rfl, h⟩⟩
            · refine ⟨q2, m - x, ?_, .inr ⟨rfl, by omega, rfl⟩⟩
              have := adr_2 (s1 := some ⟨q1, 0, none⟩) (n1 := x) (i := m - x) (show (some ⟨q2, 0, none⟩ : Option Addr) = some ⟨q2, 0, none⟩ from rfl)
              rw [Nat.zero_add, show x + (m - x) = m by omega] at this
              exact this
          rw [ea]
          obtain ⟨bv, hbv⟩ : ∃ b, getB (L t) m = b := ⟨_, rfl⟩
          rw [hbv] at HS
          have hd : m / 8 < t.size := by omega
          obtain ⟨c, hc⟩ : ∃ c, (t[m / 8]'hd).toNat = c := ⟨_, rfl⟩
          have hc256 : c < 256 := by rw [← hc]; exact (t[m / 8]'hd).toNat_lt
          have hcb : c.testBit (7 - m % 8) = bv := by
            rw [← hbv, ← hc]
            unfold getB
            have h' : m / 8 < (L t).length := by rw [← HSZ.out]; exact hd
            rw [List.getElem?_eq_getElem h']
            rfl
          have HM := Lib.hid (fun (W : World) => mask_any m W (by omega))
          have hkb := and_bit c (7 - m % 8)
          rw [hcb] at hkb
          obtain ⟨k, hk⟩ : ∃ k, 2 ^ (7 - m % 8) = k := ⟨_, rfl⟩
          have hk256 : k < 256 := by rw [← hk]; exact Nat.pow_lt_pow_right (m := 7 - m % 8) (n := 8) (by omega) (by omega)
          rw [hk] at HM hkb
          have hand : bits BinOp.and IntKind.u8 (c : Int) (k : Int) = ((c &&& k : Nat) : Int) := u8_and_nat _ _ hc256 hk256
          have hq8 : Int.tdiv (m : Int) 8 = ((m / 8 : Nat) : Int) := by rw [Int.tdiv_eq_ediv_of_nonneg (by omega)]; omega
          have hq9 : (m : Int) / 8 = ((m / 8 : Nat) : Int) := by omega
          have wd : IntKind.i64.wrap ((m / 8 : Nat) : Int) = ((m / 8 : Nat) : Int) := IntWalk.i64_in _ (by omega)
          obtain ⟨b0, b1, b2, f1, f2, f0⟩ := rbq hrb
          have hmix : Try.prog.follows .mixedOrders = true := by kernel_rfl
          have FIN : (∃ old, W.cell? ⟨qb, qo, none⟩ = some (.bool old)) ∧ W.frozen? ⟨qb, qo, none⟩ = false ∧ KeepsFrom W0.heap.size W (W.drew.setCell ⟨qb, qo, none⟩ (.bool bv)) ∧ KpC (fun k => k = q1 ∨ k = q2) W (W.drew.setCell ⟨qb, qo, none⟩ (.bool bv)) ∧
              (RB w t (W.drew.setCell ⟨qb, qo, none⟩ (.bool bv)) ∧ (W.drew.setCell ⟨qb, qo, none⟩ (.bool bv)).heap[q1]? = some (.cells (bcells ((getF (L t) (pre ++ [i])).take x)).toArray 4 (0, 0)) ∧ (W.drew.setCell ⟨qb, qo, none⟩ (.bool bv)).heap[q2]? = some (.cells (bcells ((getF (L t) (pre ++ [i])).drop x)).toArray 4 (0, 0)) ∧ (W.drew.setCell ⟨qb, qo, none⟩ (.bool bv)).heap[mb]? = some (.cells #[.slice (some ⟨q1, 0, none⟩) x x, .slice (some ⟨q2, 0, none⟩) y y] 27 (0, 0))) := by
            rw [HS.out]
            have hx1 := own_nq s1 s3 (by decide)
            have hx2 := own_nq s2 s3 (by decide)
            have kf : KeepsFrom W0.heap.size W (W.drew.setCell ⟨qb, qo, none⟩ (.bool bv)) := ((KeepsOthers.drew W).trans (KeepsOthers.setCell _ _ _)).from _
            rcases hcs with ⟨rfl, rfl, hlt⟩ | ⟨rfl, hle, rfl⟩
            · have hl1 : qo < (c0.take x).length := by rw [List.length_take, hlen]; omega
              refine ⟨⟨(c0.take x)[qo], ?_⟩, free_of s1 _, kf, fun i y hi hy _ => heap_set_ne (w := W.drew) (by show i ≠ qb; exact fun e => hi (.inl e)) hy, hrb.drew.set g1, ?_, ?_, heap_set_ne (w := W.drew) (by show mb ≠ qb; exact fun e => hx1 e.symm) s3⟩
              · have := cells_of s1 qo
                rw [this, List.getElem?_toArray]
                unfold bcells
                rw [List.getElem?_map, List.getElem?_eq_getElem hl1]
                rfl
              · have := heap_set_eq (w := W.drew) (u := .bool bv) (i := qo) s1 (by simp only [bcells, List.size_toArray, List.length_map]; exact hl1)
                rw [this, bcells_set, List.take_set]
              · rw [heap_set_ne (w := W.drew) (by show q2 ≠ qb; exact fun e => hq12 e.symm) s2, List.drop_set_of_lt hlt]
            · have hl2 : m - x < (c0.drop x).length := by rw [List.length_drop, hlen]; omega
              refine ⟨⟨(c0.drop x)[m - x], ?_⟩, free_of s2 _, kf, fun i y hi hy _ => heap_set_ne (w := W.drew) (by show i ≠ qb; exact fun e => hi (.inr e)) hy, hrb.drew.set g2, ?_, ?_, heap_set_ne (w := W.drew) (by show mb ≠ qb; exact fun e => hx2 e.symm) s3⟩
              · have := cells_of s2 (m - x)
                rw [this, List.getElem?_toArray]
                unfold bcells
                rw [List.getElem?_map, List.getElem?_eq_getElem hl2]
                rfl
              · rw [heap_set_ne (w := W.drew) (by show q1 ≠ qb; exact hq12) s1, List.take_set_of_le hle]
              · have := heap_set_eq (w := W.drew) (u := .bool bv) (i := m - x) s2 (by simp only [bcells, List.size_toArray, List.length_map]; exact hl2)
                rw [this, bcells_set, List.drop_set, if_neg (by omega)]
          obtain ⟨⟨old, hold⟩, hfr, hfin⟩ := FIN
          have HF := Lib.hid hfin
          have hmI : (m : Int) < 200 := by omega
          clear hfin hrb s1 s2 s3 hcb hc0 hlen hcs ea hbv
          gi_wp2
          refine wpIn_region_any hmix ?_
          change wpAnyIn _ _ _ _ _ _ _ _ _ (World.drew _)
          exact bit_in l _ W t w.heap.size qb qo m (m / 8) c k bv old _ _ _ _ _ _ _ _ _ _ _ _ _ _ _ _ _ _ _ _ _ _ _ _ _ _ _ _ _ _ _ _ _ _ _ _ _ _ _ _ _ _ _ _ _ _ _ _ _ _ _ _ b0 hold hfr hq8 hq9 wd hd (by omega) hc hand hkb HM.out HF.out
        case done =>
          clear k1 k2 k3 k4 hbB
          rintro D ys W hD rfl ⟨hrb, s1, s2, s3⟩ hK
          rw [getF_all] at s1 s2
          obtain ⟨bl, hbl⟩ : ∃ l, bitsN (L t) (x + y) = l := ⟨_, rfl⟩
          have hbll : bl.length = x + y := by rw [← hbl, bitsN_len]
          rw [hbl] at s1 s2 HR2
          obtain ⟨a1, ha1⟩ : ∃ a, bl.take x = a := ⟨_, rfl⟩
          obtain ⟨a2, ha2⟩ : ∃ a, bl.drop x = a := ⟨_, rfl⟩
          have AL1 := Lib.hid (show a1.length = x by rw [← ha1, List.length_take, hbll]; omega)
          have AL2 := Lib.hid (show a2.length = y by rw [← ha2, List.length_drop, hbll]; omega)
          have HAB := Lib.hid (show a1 ++ a2 = bl by rw [← ha1, ← ha2]; exact List.take_append_drop _ _)
          rw [ha1] at s1 HR2
          rw [ha2] at s2 HR2
          rw [← HAB.out] at HR2
          have hkx : KX w t q1 q2 mb x y a1 a2 W.drew := ⟨hrb.drew, s1, s2, s3⟩
          have HD1 := Lib.hid (show W.drew.heap[D]? = _ from hK)
          have hDb : bm + 1 ≤ D := by omega
          clear hrb s1 s2 s3 hK hbl hbll ha1 ha2 HAB H5 E1 E2 EM M1 M2 hD hszb
          go_upto_region 14 with fail
          go_cut [59] from 65 (fun va wx => ∃ P1, va = .bool (!(packB (a1 ++ a2) == (t.extract 0 z).toList)) ∧ KX w t q1 q2 mb x y a1 a2 wx ∧ wx.heap[D]? = some (.deferred (some [])))
          case first =>
            refine wp_normal ?_
            have T0 := hkx
            refine wp_region_held_drew (S := fun U => KX w t q1 q2 mb x y a1 a2 U) (by kernel_rfl) T0 (fun hS0 => ?_)
            refine wpAnyH_take (i := 0) (oi := ({ dst := some 53, op := Op.load 27 (Operand.tmp 7), type := 27, pos := "bits.go:71", after := #[], guard := none } : Oper)) (v := ?av501) rfl (by kernel_rfl) (by kernel_rfl) (by kernel_rfl) (fun _ _ _ h => h) (Or.inl ⟨by rfl, ?ay501⟩) T0 ?_
            case ay501 => (intro V hSw; have t0 := cells_of hSw.m 0; have t1 := cells_of hSw.m 1; simp only [List.getElem?_toArray, List.getElem?_cons_succ, List.getElem?_cons_zero] at t0 t1; go_simp; try with_reducible rfl)
            try simp only [Act.put, List.setIfInBounds_toArray, List.set_cons_zero, List.set_cons_succ]
            refine wpAnyH_take (i := 3) (oi := ({ dst := some 56, op := Op.load 9 (Operand.tmp 1), type := 9, pos := "bits.go:71", after := #[], guard := none } : Oper)) (v := ?av502) rfl (by kernel_rfl) (by kernel_rfl) (by kernel_rfl) (fun _ _ _ h => h) (Or.inl ⟨by rfl, ?ay502⟩) T0 ?_
            case ay502 => (intro V hSw; have t0 := cells_of hSw.rb.box 0; simp only [List.getElem?_toArray, List.getElem?_cons_succ, List.getElem?_cons_zero] at t0; go_simp; try with_reducible rfl)
            try simp only [Act.put, List.setIfInBounds_toArray, List.set_cons_zero, List.set_cons_succ]
            refine wpAnyH_take (i := 4) (oi := ({ dst := some 57, op := Op.move (Operand.tmp 8), type := 3, pos := "bits.go:71", after := #[], guard := none } : Oper)) (v := ?av503) rfl (by kernel_rfl) (by kernel_rfl) (by kernel_rfl) (fun _ _ _ h => h) (Or.inl ⟨by rfl, ?ay503⟩) T0 ?_
            case ay503 => (intro V hSw; go_simp; try with_reducible rfl)
            try simp only [Act.put, List.setIfInBounds_toArray, List.set_cons_zero, List.set_cons_succ]
            refine wpAnyH_take (i := 5) (oi := ({ dst := some 58, op := Op.slice 9 (Operand.tmp 56) none (some (Operand.tmp 57)) none, type := 9, pos := "bits.go:71", after := #[{ on := 3, ground := Ground.data }, { on := 4, ground := Ground.data }], guard := none } : Oper)) (v := ?av504) rfl (by kernel_rfl) (by kernel_rfl) (by kernel_rfl) (fun _ _ _ h => h) (Or.inl ⟨by rfl, ?ay504⟩) T0 ?_
            case ay504 => (intro V hSw; go_simp; try with_reducible rfl)
            try simp only [Act.put, List.setIfInBounds_toArray, List.set_cons_zero, List.set_cons_succ]
            refine wpAnyH_ready (rs := [1]) (by kernel_rfl) (by simp) ?_
            refine (AllReadyH.cons (o := _) rfl (fun K hK => ?_) AllReadyH.nil)
            go_simp
            refine (packed_n a1 a2 x y AL1.out AL2.out q1 q2 _ T0.c1 T0.c2 hx4 hy4).mono ?_
            rintro e P1 ⟨v5, rfl, hown, hb5⟩
            have T505 := T0.next hb5
            have OW := Lib.hid hown
            have HD2 := Lib.hid ((hb5.block _ (lt_of_block HD1.out)).trans HD1.out)
            obtain ⟨Av, cv, rfl⟩ := hown.form
            clear hown hb5
            try go_wp2_with fail
            refine hK.out _ _ T505 (fun hS505 => ?_)
            clear hK K
            try simp only [Act.put, List.setIfInBounds_toArray, List.set_cons_zero, List.set_cons_succ]
            refine wpAnyH_ready (rs := [2]) (by kernel_rfl) (by simp) ?_
            refine (AllReadyH.cons (o := _) rfl (fun K hK => ?_) AllReadyH.nil)
            have hcv : (convert 59 9 (.slice Av (packB (a1 ++ a2)).length cv)).run Try.prog P1 = .ok (.string ⟨(packB (a1 ++ a2)).toArray⟩) P1 := string_owned OW.out
            go_simp
            have T506 := T505
            try go_wp2_with fail
            refine hK.out _ _ T506 (fun hS506 => ?_)
            clear hK K
            try simp only [Act.put, List.setIfInBounds_toArray, List.set_cons_zero, List.set_cons_succ]
            refine wpAnyH_take (i := 6) (oi := ({ dst := some 59, op := Op.binOp BinOp.neq 9 (Operand.tmp 55) (Operand.tmp 58) 9, type := 4, pos := "bits.go:71", after := #[{ on := 2, ground := Ground.data }, { on := 5, ground := Ground.data }], guard := none } : Oper)) (v := ?av507) rfl (by kernel_rfl) (by kernel_rfl) (by kernel_rfl) (fun _ _ _ h => h) (Or.inl ⟨by rfl, ?ay507⟩) T506 ?_
            case ay507 => (intro V hSw; go_simp; try with_reducible rfl)
            try simp only [Act.put, List.setIfInBounds_toArray, List.set_cons_zero, List.set_cons_succ]
            refine wpAnyH_done (by kernel_rfl) ?_ _
            go_wp2
            go_meet
            case rel => exact ⟨P1, rfl, T506, HD2.out⟩
          obtain ⟨P1, rfl, hkx2, hd2⟩ := hcut
          have he : (t.extract 0 z).toList = (L t).take z := by rw [toList_data, L_extract]; simp
          rw [he]
          have HKX := Lib.hid hkx2
          have HD3 := Lib.hid hd2
          have HLZ := Lib.hid (L_from t)
          obtain ⟨V9, hV9⟩ : ∃ x, x = wc := ⟨_, rfl⟩
          have HT2 := Lib.hid (show L (t.extract z t.size) = (L t).drop z from L_from t z)
          by_cases hP : packB (a1 ++ a2) = (L t).take z
          · have hb : (packB (a1 ++ a2) == (L t).take z) = true := by simpa using hP
            have HR3 := Lib.hid (show RM.yes (a1, a2) ((L t).drop z) = R by rw [← HR2.out, if_pos hP])
            rw [hb]
            obtain ⟨bf, hbf⟩ : ∃ b, (!true) = b := ⟨_, rfl⟩
            rw [hbf]
            have hbf2 : bf = false := by rw [← hbf]; rfl
            have hky : (fun U : World => U.heap[mb]? = some (.cells #[.slice (some ⟨q1, 0, none⟩) x x, .slice (some ⟨q2, 0, none⟩) y y] 27 (0, 0)) ∧ U.heap[w.heap.size]? = some (.cells #[.string t] 9 (0, 0))) wc.drew := ⟨hkx2.m, hkx2.rb.box⟩
            subst hbf2
            clear hkx2 hd2 he hb hP HR2 hbf hkx HD1 hV9
            go_upto_region 16 with fail
            go_cut [3, 4] from 65 (fun va vb wx => va = .string (t.extract z t.size) ∧ vb = .int .i64 0 ∧ wx.heap[w.heap.size + 1]? = some (.cells #[.slice (some ⟨q1, 0, none⟩) x x, .slice (some ⟨q2, 0, none⟩) y y] 27 (0, 0)) ∧ wx.heap[q1]? = some (.cells (bcells a1).toArray 4 (0, 0)) ∧ wx.heap[q2]? = some (.cells (bcells a2).toArray 4 (0, 0)) ∧ wx.heap[D]? = some (.deferred (some [])) ∧ Below w.heap.size w wx)
            case first =>
              refine wp_normal ?_
              have T0 := hky
              refine wp_region_held_drew (S := fun U => U.heap[mb]? = some (.cells #[.slice (some ⟨q1, 0, none⟩) x x, .slice (some ⟨q2, 0, none⟩) y y] 27 (0, 0)) ∧ U.heap[w.heap.size]? = some (.cells #[.string t] 9 (0, 0))) (by kernel_rfl) T0 (fun hS0 => ?_)
              refine wpAnyH_take (i := 0) (oi := ({ dst := some 61, op := Op.load 27 (Operand.tmp 7), type := 27, pos := "bits.go:74", after := #[], guard := none } : Oper)) (v := ?av508) rfl (by kernel_rfl) (by kernel_rfl) (by kernel_rfl) (fun _ _ _ h => h) (Or.inl ⟨by rfl, ?ay508⟩) T0 ?_
              case ay508 => (intro V hSw; have t0 := cells_of hSw.1 0; have t1 := cells_of hSw.1 1; simp only [List.getElem?_toArray, List.getElem?_cons_succ, List.getElem?_cons_zero] at t0 t1; go_simp; try with_reducible rfl)
              try simp only [Act.put, List.setIfInBounds_toArray, List.set_cons_zero, List.set_cons_succ]
              refine wpAnyH_take (i := 1) (oi := ({ dst := some 62, op := Op.load 9 (Operand.tmp 1), type := 9, pos := "bits.go:74", after := #[], guard := none } : Oper)) (v := ?av509) rfl (by kernel_rfl) (by kernel_rfl) (by kernel_rfl) (fun _ _ _ h => h) (Or.inl ⟨by rfl, ?ay509⟩) T0 ?_
              case ay509 => (intro V hSw; have t0 := cells_of hSw.2 0; simp only [List.getElem?_toArray, List.getElem?_cons_succ, List.getElem?_cons_zero] at t0; go_simp; try with_reducible rfl)
              try simp only [Act.put, List.setIfInBounds_toArray, List.set_cons_zero, List.set_cons_succ]
              refine wpAnyH_take (i := 2) (oi := ({ dst := some 63, op := Op.move (Operand.tmp 8), type := 3, pos := "bits.go:74", after := #[], guard := none } : Oper)) (v := ?av510) rfl (by kernel_rfl) (by kernel_rfl) (by kernel_rfl) (fun _ _ _ h => h) (Or.inl ⟨by rfl, ?ay510⟩) T0 ?_
              case ay510 => (intro V hSw; go_simp; try with_reducible rfl)
              try simp only [Act.put, List.setIfInBounds_toArray, List.set_cons_zero, List.set_cons_succ]
              refine wpAnyH_take (i := 3) (oi := ({ dst := some 64, op := Op.slice 9 (Operand.tmp 62) (some (Operand.tmp 63)) none none, type := 9, pos := "bits.go:74", after := #[{ on := 1, ground := Ground.data }, { on := 2, ground := Ground.data }], guard := none } : Oper)) (v := ?av511) rfl (by kernel_rfl) (by kernel_rfl) (by kernel_rfl) (fun _ _ _ h => h) (Or.inl ⟨by rfl, ?ay511⟩) T0 ?_
              case ay511 => (intro V hSw; go_simp; try with_reducible rfl)
              try simp only [Act.put, List.setIfInBounds_toArray, List.set_cons_zero, List.set_cons_succ]
              refine wpAnyH_ready (rs := [4]) (by kernel_rfl) (by simp) ?_
              refine (AllReadyH.cons (o := _) rfl (fun K hK => ?_) AllReadyH.nil)
              obtain ⟨b0, b1, b2, f1, f2, f0⟩ := rbq HKX.out.rb
              have tlt := lt_of_block HKX.out.rb.res
              go_simp
              have T512 : (fun U : World => U.heap[mb]? = some (.cells #[.slice (some ⟨q1, 0, none⟩) x x, .slice (some ⟨q2, 0, none⟩) y y] 27 (0, 0)) ∧ U.heap[w.heap.size]? = some (.cells #[.string t] 9 (0, 0))) ((wc.drew.setCell ⟨w.heap.size + 1, 0, none⟩ (.slice (some ⟨q1, 0, none⟩) x x)).setCell ⟨w.heap.size + 1, 1, none⟩ (.slice (some ⟨q2, 0, none⟩) y y)) := ⟨heap_set_ne (by show mb ≠ w.heap.size + 1; omega) (heap_set_ne (by show mb ≠ w.heap.size + 1; omega) HKX.out.m), heap_set_ne (by show w.heap.size ≠ w.heap.size + 1; omega) (heap_set_ne (by show w.heap.size ≠ w.heap.size + 1; omega) HKX.out.rb.box)⟩
              clear b0 b1 b2 f1 f2 f0
              try go_wp2_with fail
              refine hK.out _ _ T512 (fun hS512 => ?_)
              clear hK K
              try simp only [Act.put, List.setIfInBounds_toArray, List.set_cons_zero, List.set_cons_succ]
              refine wpAnyH_take (i := 5) (oi := ({ dst := some 3, op := Op.assign (Operand.tmp 64), type := 9, pos := "bits.go:74", after := #[{ on := 3, ground := Ground.data }, { on := 4, ground := Ground.chain }, { on := 0, ground := Ground.phase }, { on := 1, ground := Ground.phase }, { on := 2, ground := Ground.phase }, { on := 3, ground := Ground.phase }, { on := 4, ground := Ground.phase }], guard := none } : Oper)) (v := ?av513) rfl (by kernel_rfl) (by kernel_rfl) (by kernel_rfl) (fun _ _ _ h => h) (Or.inl ⟨by rfl, ?ay513⟩) T512 ?_
              case ay513 => (intro V hSw; go_simp; try with_reducible rfl)
              try simp only [Act.put, List.setIfInBounds_toArray, List.set_cons_zero, List.set_cons_succ]
              refine wpAnyH_take (i := 6) (oi := ({ dst := some 4, op := Op.assign (Operand.const (Value.int IntKind.i64 0)), type := 47, pos := "bits.go:74", after := #[{ on := 5, ground := Ground.chain }, { on := 0, ground := Ground.phase }, { on := 1, ground := Ground.phase }, { on := 2, ground := Ground.phase }, { on := 3, ground := Ground.phase }, { on := 4, ground := Ground.phase }, { on := 5, ground := Ground.phase }], guard := none } : Oper)) (v := ?av514) rfl (by kernel_rfl) (by kernel_rfl) (by kernel_rfl) (fun _ _ _ h => h) (Or.inl ⟨by rfl, ?ay514⟩) T512 ?_
              case ay514 => (intro V hSw; go_simp; try with_reducible rfl)
              try simp only [Act.put, List.setIfInBounds_toArray, List.set_cons_zero, List.set_cons_succ]
              refine wpAnyH_done (by kernel_rfl) ?_ _
              go_wp2
              go_meet
              case rel => exact ⟨rfl, rfl, two_set (w := wc.drew) HKX.out.rb.res, heap_set_ne (by show q1 ≠ w.heap.size + 1; omega) (heap_set_ne (w := wc.drew) (by show q1 ≠ w.heap.size + 1; omega) HKX.out.c1), heap_set_ne (by show q2 ≠ w.heap.size + 1; omega) (heap_set_ne (w := wc.drew) (by show q2 ≠ w.heap.size + 1; omega) HKX.out.c2), heap_set_ne (by show D ≠ w.heap.size + 1; omega) (heap_set_ne (w := wc.drew) (by show D ≠ w.heap.size + 1; omega) HD3.out), (HKX.out.rb.below.drew.setCell (p := ⟨w.heap.size + 1, 0, none⟩) (by show _ ≤ w.heap.size + 1; omega) _).setCell (p := ⟨w.heap.size + 1, 1, none⟩) (by show _ ≤ w.heap.size + 1; omega) _⟩
            obtain ⟨rfl, rfl, s1, s2, s3, s4, s5⟩ := hcut
            have S1 := Lib.hid s1
            have S2 := Lib.hid s2
            have S3 := Lib.hid s3
            have S4 := Lib.hid s4
            have S5 := Lib.hid s5
            clear s1 s2 s3 s4 s5 hky
            go_wp2
            refine ⟨by simp, .inl ⟨_, _, rfl, run_takeDeferred S4.out, ?_⟩⟩
            obtain ⟨U, hU⟩ : ∃ U, World.putObj wc D (.deferred none) = U := ⟨_, rfl⟩
            have r1 : U.heap[w.heap.size + 1]? = some (.cells #[.slice (some ⟨q1, 0, none⟩) x x, .slice (some ⟨q2, 0, none⟩) y y] 27 (0, 0)) := by rw [← hU, World.putObj_heap_other (by omega)]; exact S1.out
            have r2 : U.heap[q1]? = some (.cells (bcells a1).toArray 4 (0, 0)) := by rw [← hU, World.putObj_heap_other (by omega)]; exact S2.out
            have r3 : U.heap[q2]? = some (.cells (bcells a2).toArray 4 (0, 0)) := by rw [← hU, World.putObj_heap_other (by omega)]; exact S3.out
            have r5 : Below w.heap.size w U := by rw [← hU]; exact S5.out.grown (grownBy_putObj' _ _ _) (by have := S5.out.size; omega) (fun k e => by cases e; omega)
            rw [hU]
            have z0 := cells_of r1 0
            have z1 := cells_of r1 1
            simp only [List.getElem?_toArray, List.getElem?_cons_succ, List.getElem?_cons_zero] at z0 z1
            refine ⟨.tuple #[.agg #[.slice (some ⟨q1, 0, none⟩) x x, .slice (some ⟨q2, 0, none⟩) y y], .string (t.extract z t.size), .int .i64 0], by simp [results, results24, go_sem, z0, z1], r5, ?_⟩
            rw [← HR3.out]
            exact ⟨_, _, _, rfl, HT2.out, by
              unfold OwnL
              rw [AL1.out]
              exact own_new (size := 1) r2 (by omega) (by rw [bcells_len, AL1.out, Nat.mul_one]) (by unfold maxLen; omega), by
              unfold OwnL
              rw [AL2.out]
              exact own_new (size := 1) r3 (by omega) (by rw [bcells_len, AL2.out, Nat.mul_one]) (by unfold maxLen; omega)⟩
          · have hb : (packB (a1 ++ a2) == (L t).take z) = false := by simpa using hP
            have HR3 := Lib.hid (show RM.no 4 = R by rw [← HR2.out, if_neg hP])
            rw [hb]
            obtain ⟨p0, p1, p2, f1, f2, f0⟩ := rbq hkx2.rb
            have tlt := lt_of_block hkx2.rb.res
            clear hkx2 hd2 he hb hP HR2 hkx HD1 hV9
            go_wp2
            have s4 : ((wc.setCell ⟨w.heap.size + 1, 0, none⟩ (.slice none 0 0)).setCell ⟨w.heap.size + 1, 1, none⟩ (.slice none 0 0)).heap[D]? = some (.deferred (some [])) := heap_set_ne (by show D ≠ w.heap.size + 1; omega) (heap_set_ne (by show D ≠ w.heap.size + 1; omega) HD3.out)
            refine ⟨by simp, .inl ⟨_, _, rfl, run_takeDeferred s4, ?_⟩⟩
            have s1 := two_set (u := .slice none 0 0) (v := .slice none 0 0) HKX.out.rb.res
            have s5 := (HKX.out.rb.below.setCell (p := ⟨w.heap.size + 1, 0, none⟩) (by show _ ≤ w.heap.size + 1; omega) (.slice none 0 0)).setCell (p := ⟨w.heap.size + 1, 1, none⟩) (by show _ ≤ w.heap.size + 1; omega) (.slice none 0 0)
            obtain ⟨U0, hU0⟩ : ∃ U, ((wc.setCell ⟨w.heap.size + 1, 0, none⟩ (.slice none 0 0)).setCell ⟨w.heap.size + 1, 1, none⟩ (.slice none 0 0)) = U := ⟨_, rfl⟩
            rw [hU0] at s1 s4 s5 ⊢
            obtain ⟨U, hU⟩ : ∃ U, World.putObj U0 D (.deferred none) = U := ⟨_, rfl⟩
            have r1 : U.heap[w.heap.size + 1]? = some (.cells #[.slice none 0 0, .slice none 0 0] 27 (0, 0)) := by rw [← hU, World.putObj_heap_other (by omega)]; exact s1
            have r5 : Below w.heap.size w U := by rw [← hU]; exact s5.grown (grownBy_putObj' _ _ _) (by have := s5.size; omega) (fun k e => by cases e; omega)
            rw [hU]
            have z0 := cells_of r1 0
            have z1 := cells_of r1 1
            simp only [List.getElem?_toArray, List.getElem?_cons_succ, List.getElem?_cons_zero] at z0 z1
            refine ⟨.tuple #[.agg #[.slice none 0 0, .slice none 0 0], .string ⟨#[]⟩, .int .i64 4], by simp [results, results24, go_sem, z0, z1], r5, ?_⟩
            rw [← HR3.out]
            rfl
        case stop =>
          rintro D c pre W _ _ h _
          exact h.elim
end Go.Proofs.Ytgepgbpjdjbelaa
