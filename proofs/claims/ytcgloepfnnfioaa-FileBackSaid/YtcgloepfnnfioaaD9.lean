/-
  PRUNED by wip/tools/prunem.py: what these texts need of an earlier stage's.
-/
import Derived.Test.YtcgloepfnnfioaaD8
set_option linter.unusedVariables false
set_option linter.unusedSimpArgs false
namespace Go.Proofs.Ytcgloepfnnfioaa
open Go.RowKit

theorem own_below {w w' : World} {base : Nat} {e : TypeId} {size : Nat} {v : Value} {n : Nat} {xs : List Value} (own : w.ownsRow base e size v n xs) (h : Below w.heap.size w w') : w'.ownsRow base e size v n xs :=
  own.kept (row := none) ⟨h.os, h.tape, h.output, h.size, fun k hk _ => h.block k hk⟩ (by
    cases hv : v.ownBlock with
    | none => exact .inl rfl
    | some g => exact .inr (by simp))
/-- The world at the head of the loop. -/
structure RS (w : World) (t : List UInt8) (z M : Nat) (x : ByteArray) (done : List Ty) (v : Value) (wx : World) : Prop where
  res : wx.heap[w.heap.size]? = some (.cells #[.slice none 0 0, .int .i64 0, .string ⟨#[]⟩, .bool false] 112 (0, 0))
  m : wx.heap[M]? = some (.cells #[v, .int .i64 0, .string ⟨#[]⟩, .bool false] 112 (0, 0))
  own : wx.ownsRow (M + 1) 98 2 v done.length (tcells done)
  loop : Loop t (L x) done
  len : done.length + x.size ≤ z
  bel : Below w.heap.size w wx
theorem RS.step {w : World} {t : List UInt8} {z M : Nat} {x x' : ByteArray} {done : List Ty} {v v' : Value} {wx w2 w5 : World} {o1 o2 : Obj} {q : Ty} (h : RS w t z M x done v wx)
    (hM : w.heap.size < M) (hb : Below wx.heap.size wx w2) (hf : firstL (L x) = some q) (hx : L x' = (L x).drop (tlen q))
    (own : w5.ownsRow (M + 1) 98 2 v' (done.length + 1) (tcells done ++ [.int .i64 q.1, .string (mkB q.2)])) (hg : ((w2.alloc o1).alloc o2).grownBy w5 v.ownBlock) :
    RS w t z M x' (done ++ [q]) v' (w5.setCell ⟨M, 0, none⟩ v') := by
  have ho := ((own_below h.own hb).alloc o1).alloc o2
  have k := fun {y : Obj} (b : Nat) (hb' : b < M + 1) (hx : wx.heap[b]? = some y) => grown_keep hg ho hb' (heap_alloc_lt (heap_alloc_lt (Below.keep hb (lt_of_block hx) hx)))
  have htp := tlen_pos q
  have htl := firstL_len hf
  have hz : x'.size + tlen q = x.size := by rw [size_L, hx, List.length_drop, ← size_L]; rw [← size_L] at htl; omega
  have hl := h.len
  have s1 := h.bel.size
  have s2 := hb.size
  refine ⟨heap_setCell_ne (by simp; omega) (k _ (by omega) h.res), cells_setCell (k _ (by omega) h.m), ?_, by rw [hx]; exact h.loop.next hf, by simp; omega, ?_⟩
  · rw [tcells_append, tcells_one, List.length_append]
    exact ownsRow_setCell_below own (by show M < M + 1; omega) _
  · refine Below.setCell ?_ (by show w.heap.size ≤ M; omega) _
    have hb2 : Below w.heap.size w w2 := h.bel.trans (hb.mono (by omega))
    exact ((hb2.alloc (by omega) o1).alloc (by simp; omega) o2).grown hg (by simp; omega) (fun k hk => by have := (ho.lt k hk).1; omega)
set_option maxRecDepth 1000000 in
set_option maxHeartbeats 3200000 in
theorem refMethod_any (s : ByteArray) (w : World) (hs : s.size ≤ 1000000) :
    Calls Try.prog 94 #[.string s] w fun e w' => ∃ v, e = .returned (sgV v (res (methL (L s)))) ∧ w'.ownsRow w.heap.size 98 2 v (res (methL (L s))).1.length (tcells (res (methL (L s))).1) ∧ Below w.heap.size w w' := by
  have hZ : ∀ (X : List Ty × Ty × Bool × Int) (e : Ending) (w' : World), X = ([], (0, []), false, 9) → e = .returned (.tuple #[.agg #[.slice none 0 0, .int .i64 0, .string ⟨#[]⟩, .bool false], .int .i64 9]) → Below w.heap.size w w' →
      ∃ v, e = .returned (sgV v X) ∧ w'.ownsRow w.heap.size 98 2 v X.1.length (tcells X.1) ∧ Below w.heap.size w w' := by
    rintro X e w' rfl rfl hb
    exact ⟨_, rfl, World.ownsRow_nil _ _ _ _, hb⟩
  have HZ := Lib.hid hZ
  clear hZ
  obtain ⟨X, hX⟩ : ∃ X, res (methL (L s)) = X := ⟨_, rfl⟩
  rw [hX]
  have HX := Lib.hid hX
  clear hX
  cases hL : L s with
  | nil =>
    have hR := Lib.hid (show X = ([], (0, []), false, 9) by rw [← HX.out, hL]; rfl)
    have hz : s.size = 0 := by rw [size_L, hL]; rfl
    have e1 := nil_of0 hz
    have e2 := emp_of0 hz
    clear hL hz
    go_enter Try.func94, Try.ntmps94
    go_wp2
    refine bodyPost_ret (v := .tuple #[.agg #[.slice none 0 0, .int .i64 0, .string ⟨#[]⟩, .bool false], .int .i64 9]) (by simp [results, Try.results94, go_sem]) rfl (HZ.out _ _ _ hR.out rfl ?_)
    exact (Below.refl _ _).alloc (Nat.le_refl _) _
  | cons c t =>
    obtain ⟨hp, hc⟩ := head_at hL
    have e1 := ne_ofpos hp
    have e2 := emp_ofpos hp
    by_cases h40 : c = 40
    · subst h40
      have hat : ((s[0]'hp).toNat : Int) = 40 := by rw [hc]; rfl
      obtain ⟨x, hx⟩ : ∃ x, s.extract 1 s.size = x := ⟨_, rfl⟩
      have hLx : L x = t := by rw [← hx]; exact (Lib.extract_to_end s 1).trans (drop_pos_cons hL)
      have hxz : x.size + 1 = s.size := by rw [size_L, size_L, hLx, hL]; rfl
      have HXS := Lib.hid (show X = res (sigR (args t)) by rw [← HX.out, hL]; rfl)
      clear hL hc HX
      go_enter Try.func94, Try.ntmps94
      go_wp2
      have HRS : RS w t s.size (w.heap.size + 1) x [] (.slice none 0 0) ((w.alloc (.cells #[.slice none 0 0, .int .i64 0, .string ⟨#[]⟩, .bool false] 112)).alloc (.cells #[.slice none 0 0, .int .i64 0, .string ⟨#[]⟩, .bool false] 112)) :=
        ⟨heap_alloc_lt (heap_new w _), heap_new2 w _ _, World.ownsRow_nil _ _ _ _, by rw [hLx]; exact Loop.start t, by simp; omega, ((Below.refl _ _).alloc (Nat.le_refl _) _).alloc (by simp) _⟩
      have HRS := Lib.hid HRS
      generalize (w.alloc (.cells #[.slice none 0 0, .int .i64 0, .string ⟨#[]⟩, .bool false] 112)).alloc (.cells #[.slice none 0 0, .int .i64 0, .string ⟨#[]⟩, .bool false] 112) = wi at *
      generalize hMe : w.heap.size + 1 = M at *
      have hwM : w.heap.size < M := by omega
      have HLX := Lib.hid hLx
      clear hMe hLx
      go_loopg [0, 5, 6] x.size (fun g xv _ _ wx => ∃ (y : ByteArray) (done : List Ty) (v : Value), xv = .string y ∧ y.size ≤ g ∧ RS w t s.size M y done v wx)
      case atStart => exact ⟨x, [], _, rfl, Nat.le_refl _, HRS.out⟩
      case round =>
        obtain ⟨y, done, v, rfl, hg, hrs⟩ := hrel
        have HR := Lib.hid hrs
        have hlen := hrs.len
        have z1 := lt_of_block hrs.res
        have z2 := lt_of_block hrs.m
        have hd : ((done.length : Nat) : Int) ≤ 1000000 := by omega
        have hd' : done.length ≤ 1000000 := by omega
        have r0 : wr.cell? ⟨w.heap.size, 0, none⟩ = some (.slice none 0 0) := cells_of hrs.res 0
        have r1' : wr.cell? ⟨w.heap.size, 1, none⟩ = some (.int .i64 0) := cells_of hrs.res 1
        have r2' : wr.cell? ⟨w.heap.size, 2, none⟩ = some (.string ⟨#[]⟩) := cells_of hrs.res 2
        have r3 : wr.cell? ⟨w.heap.size, 3, none⟩ = some (.bool false) := cells_of hrs.res 3
        have f0 := free_of hrs.res 0
        have f1 := free_of hrs.res 1
        have f2 := free_of hrs.res 2
        have f3 := free_of hrs.res 3
        have m0 : wr.cell? ⟨M, 0, none⟩ = some v := cells_of hrs.m 0
        have m1 : wr.cell? ⟨M, 1, none⟩ = some (.int .i64 0) := cells_of hrs.m 1
        have m2 : wr.cell? ⟨M, 2, none⟩ = some (.string ⟨#[]⟩) := cells_of hrs.m 2
        have m3 : wr.cell? ⟨M, 3, none⟩ = some (.bool false) := cells_of hrs.m 3
        have k1 := free_of hrs.m 1
        have k2 := free_of hrs.m 2
        have k3 := free_of hrs.m 3
        clear hrs
        cases hy : L y with
        | nil =>
          have hR := Lib.hid (show X = ([], (0, []), false, 9) by
            rw [HXS.out, HR.out.loop.stop (by rw [hy]; rfl), hy]; rfl)
          have hz : y.size = 0 := by rw [size_L, hy]; rfl
          have e1 := nil_of0 hz
          have e2 := emp_of0 hz
          clear hy hz
          go_wp2
          refine bodyPost_ret (v := .tuple #[.agg #[.slice none 0 0, .int .i64 0, .string ⟨#[]⟩, .bool false], .int .i64 9]) (by simp [results, Try.results94, go_sem, r0, r1', r2', r3]) rfl (HZ.out _ _ _ hR.out rfl ?_)
          exact (((HR.out.bel.setCell (Nat.le_refl _) _).setCell (Nat.le_refl _) _).setCell (Nat.le_refl _) _).setCell (Nat.le_refl _) _
        | cons c u =>
          obtain ⟨hyp, hyc⟩ := head_at hy
          have e1 := ne_ofpos hyp
          have e2 := emp_ofpos hyp
          by_cases h41 : c = 41
          · subst h41
            have hat2 : ((y[0]'hyp).toNat : Int) = 41 := by rw [hyc]; rfl
            have HA := Lib.hid (show X = res ((retL u).map fun q => (done, q)) by
              have hn : firstL (L y) = none := by
                cases hf : firstL (L y) with
                | none => rfl
                | some q => rw [hy] at hf; exact absurd (firstL_head hf) (by decide)
              rw [HXS.out, HR.out.loop.stop hn, hy]
              rfl)
            obtain ⟨va, vc, rfl⟩ : ∃ a c, v = .slice a done.length c := by
              rcases HR.out.own.2 with ⟨h, h0⟩ | ⟨g, cap, _, h, _⟩
              · exact ⟨none, 0, by rw [h, h0]⟩
              · exact ⟨_, _, h⟩
            have hn1 : w.heap.size ≠ M := by omega
            have hn2 : M ≠ w.heap.size := by omega
            by_cases hV : u = [86]
            · have es : (y.toList == [41, 86]) = true := by rw [toList_data, hy, hV]; rfl
              have hret : retL u = some none := by rw [hV]; rfl
              by_cases h16 : done.length ≤ 16
              · have hR := Lib.hid (show X = (done, (0, []), true, 0) by
                  rw [HA.out, hret]
                  show (if done.length ≤ 16 then _ else _) = _
                  rw [if_pos h16]
                  rfl)
                have h17 : (done.length : Int) ≤ 16 := by omega
                clear hy hyc hret hV h16
                go_wp2
                refine bodyPost_ret (v := .tuple #[.agg #[.slice va (done.length : Nat) vc, .int .i64 0, .string ⟨#[]⟩, .bool true], .int .i64 0]) (by simp [results, Try.results94, go_sem, r0, r1', r2', r3, hn1, hn2]) rfl ?_
                rw [hR.out]
                refine ⟨.slice va done.length vc, rfl, ?_, ?_⟩
                · exact owns_mono (ownsRow_setCell_below (ownsRow_setCell_below (ownsRow_setCell_below (ownsRow_setCell_below (ownsRow_setCell_below HR.out.own (by show M < M + 1; omega) _) (by show w.heap.size < M + 1; omega) _) (by show w.heap.size < M + 1; omega) _) (by show w.heap.size < M + 1; omega) _) (by show w.heap.size < M + 1; omega) _) (by omega)
                · exact ((((HR.out.bel.setCell (by show w.heap.size ≤ M; omega) _).setCell (Nat.le_refl _) _).setCell (Nat.le_refl _) _).setCell (Nat.le_refl _) _).setCell (Nat.le_refl _) _
              · have hR := Lib.hid (show X = ([], (0, []), false, 3) by
                  rw [HA.out, hret]
                  show (if done.length ≤ 16 then _ else _) = _
                  rw [if_neg h16])
                have h17 : (16 : Int) < (done.length : Int) := by omega
                clear hy hyc hret hV h16
                go_wp2
                refine bodyPost_ret (v := .tuple #[.agg #[.slice none 0 0, .int .i64 0, .string ⟨#[]⟩, .bool false], .int .i64 3]) (by simp [results, Try.results94, go_sem, r0, r1', r2', r3, hn1, hn2]) rfl ?_
                rw [hR.out]
                refine ⟨_, rfl, World.ownsRow_nil _ _ _ _, ?_⟩
                exact ((((HR.out.bel.setCell (by show w.heap.size ≤ M; omega) _).setCell (Nat.le_refl _) _).setCell (Nat.le_refl _) _).setCell (Nat.le_refl _) _).setCell (Nat.le_refl _) _
            · have es : (y.toList == [41, 86]) = false := by
                rw [toList_data, hy, beq_eq_false_iff_ne]
                intro e
                exact hV (List.cons.inj e).2
              have hx1 : L (y.extract 1 y.size) = u := (Lib.extract_to_end y 1).trans (drop_pos_cons hy)
              have hyu : y.size = u.length + 1 := by rw [size_L, hy]; rfl
              have HN := fun W => Lib.hid (refField_any (y.extract 1 y.size) W (by rw [size_L, hx1]; omega))
              rw [hx1] at HN
              have hret : retL u = (fieldL u).map some := by unfold retL; rw [if_neg hV]
              cases hfu : fieldL u with
              | none =>
                have hR := Lib.hid (show X = ([], (0, []), false, 9) by rw [HA.out, hret, hfu]; rfl)
                rw [hfu, show fdV none = .tuple #[.agg #[.int .i64 0, .string ⟨#[]⟩], .int .i64 9] from rfl] at HN
                clear hy hyc hret hV hfu hx1 hyu
                go_wp2_with fail
                refine (HN _).out.mono ?_
                rintro e w2 ⟨rfl, hb2⟩
                have RES := Below.keep hb2 z1 HR.out.res
                have M2 := Below.keep hb2 z2 HR.out.m
                have HOW := Lib.hid (own_below HR.out.own hb2)
                have HB2 := Lib.hid (HR.out.bel.trans (hb2.mono (by omega)))
                have z3 : w.heap.size < w2.heap.size := by have := hb2.size; omega
                have z4 : M < w2.heap.size := by have := hb2.size; omega
                have q0 : w2.cell? ⟨w.heap.size, 0, none⟩ = some (.slice none 0 0) := cells_of RES 0
                have q1 : w2.cell? ⟨w.heap.size, 1, none⟩ = some (.int .i64 0) := cells_of RES 1
                have q2 : w2.cell? ⟨w.heap.size, 2, none⟩ = some (.string ⟨#[]⟩) := cells_of RES 2
                have q3 : w2.cell? ⟨w.heap.size, 3, none⟩ = some (.bool false) := cells_of RES 3
                have g0 := free_of RES 0
                have g1 := free_of RES 1
                have g2 := free_of RES 2
                have g3 := free_of RES 3
                have p0 : w2.cell? ⟨M, 0, none⟩ = some (.slice va done.length vc) := cells_of M2 0
                have p1 : w2.cell? ⟨M, 1, none⟩ = some (.int .i64 0) := cells_of M2 1
                have p2 : w2.cell? ⟨M, 2, none⟩ = some (.string ⟨#[]⟩) := cells_of M2 2
                have p3 : w2.cell? ⟨M, 3, none⟩ = some (.bool false) := cells_of M2 3
                have h1 := free_of M2 1
                have h2 := free_of M2 2
                clear RES M2 hb2
                go_wp2
                refine bodyPost_ret (v := .tuple #[.agg #[.slice none 0 0, .int .i64 0, .string ⟨#[]⟩, .bool false], .int .i64 9]) (by simp [results, Try.results94, go_sem, q0, q1, q2, q3, z3]) rfl (HZ.out _ _ _ hR.out rfl ?_)
                exact ((((HB2.out.setCell (Nat.le_refl _) _).setCell (Nat.le_refl _) _).setCell (Nat.le_refl _) _).setCell (Nat.le_refl _) _).alloc (by simp; omega) _
              | some q =>
                rw [hfu, show fdV (some q) = .tuple #[.agg #[.int .i64 q.1, .string (mkB q.2)], .int .i64 0] from rfl] at HN
                by_cases h16 : done.length ≤ 16
                · have hR := Lib.hid (show X = (done, q, false, 0) by
                    rw [HA.out, hret, hfu]
                    show (if done.length ≤ 16 then _ else _) = _
                    rw [if_pos h16]
                    rfl)
                  have h17 : (done.length : Int) ≤ 16 := by omega
                  generalize hqn : mkB q.2 = qn at *
                  generalize hqd : q.1 = qd at *
                  have HQN := Lib.hid hqn
                  have HQD := Lib.hid hqd
                  clear hy hyc hret hV hfu hx1 hyu h16 hqn hqd
                  go_wp2_with fail
                  refine (HN _).out.mono ?_
                  rintro e w2 ⟨rfl, hb2⟩
                  have RES := Below.keep hb2 z1 HR.out.res
                  have M2 := Below.keep hb2 z2 HR.out.m
                  have HOW := Lib.hid (own_below HR.out.own hb2)
                  have HB2 := Lib.hid (HR.out.bel.trans (hb2.mono (by omega)))
                  have z3 : w.heap.size < w2.heap.size := by have := hb2.size; omega
                  have z4 : M < w2.heap.size := by have := hb2.size; omega
                  have q0 : w2.cell? ⟨w.heap.size, 0, none⟩ = some (.slice none 0 0) := cells_of RES 0
                  have q1 : w2.cell? ⟨w.heap.size, 1, none⟩ = some (.int .i64 0) := cells_of RES 1
                  have q2 : w2.cell? ⟨w.heap.size, 2, none⟩ = some (.string ⟨#[]⟩) := cells_of RES 2
                  have q3 : w2.cell? ⟨w.heap.size, 3, none⟩ = some (.bool false) := cells_of RES 3
                  have g0 := free_of RES 0
                  have g1 := free_of RES 1
                  have g2 := free_of RES 2
                  have g3 := free_of RES 3
                  have p0 : w2.cell? ⟨M, 0, none⟩ = some (.slice va done.length vc) := cells_of M2 0
                  have p1 : w2.cell? ⟨M, 1, none⟩ = some (.int .i64 0) := cells_of M2 1
                  have p2 : w2.cell? ⟨M, 2, none⟩ = some (.string ⟨#[]⟩) := cells_of M2 2
                  have p3 : w2.cell? ⟨M, 3, none⟩ = some (.bool false) := cells_of M2 3
                  have h1 := free_of M2 1
                  have h2 := free_of M2 2
                  clear RES M2 hb2
                  go_wp2
                  refine bodyPost_ret (v := .tuple #[.agg #[.slice va (done.length : Nat) vc, .int .i64 (qd : Int), .string qn, .bool false], .int .i64 0]) (by simp [results, Try.results94, go_sem, q0, q1, q2, q3, hn1, hn2, z3, z4]) rfl ?_
                  rw [hR.out]
                  refine ⟨.slice va done.length vc, ?_, ?_, ?_⟩
                  · show _ = Ending.returned (.tuple #[.agg #[_, .int .i64 (q.1 : Int), .string (mkB q.2), _], _])
                    rw [HQN.out, HQD.out]
                  · exact owns_mono ((ownsRow_setCell_below (ownsRow_setCell_below (ownsRow_setCell_below (ownsRow_setCell_below (ownsRow_setCell_below (ownsRow_setCell_below HOW.out (by show M < M + 1; omega) _) (by show M < M + 1; omega) _) (by show w.heap.size < M + 1; omega) _) (by show w.heap.size < M + 1; omega) _) (by show w.heap.size < M + 1; omega) _) (by show w.heap.size < M + 1; omega) _).alloc _) (by omega)
                  · exact ((((((HB2.out.setCell (by show w.heap.size ≤ M; omega) _).setCell (by show w.heap.size ≤ M; omega) _).setCell (by show w.heap.size ≤ w.heap.size; omega) _).setCell (by show w.heap.size ≤ w.heap.size; omega) _).setCell (by show w.heap.size ≤ w.heap.size; omega) _).setCell (by show w.heap.size ≤ w.heap.size; omega) _).alloc (by simp; omega) _
                · have hR := Lib.hid (show X = ([], (0, []), false, 3) by
                    rw [HA.out, hret, hfu]
                    show (if done.length ≤ 16 then _ else _) = _
                    rw [if_neg h16])
                  have h17 : (16 : Int) < (done.length : Int) := by omega
                  generalize hqn : mkB q.2 = qn at *
                  generalize hqd : q.1 = qd at *
                  clear hy hyc hret hV hfu hx1 hyu h16 hqn hqd
                  go_wp2_with fail
                  refine (HN _).out.mono ?_
                  rintro e w2 ⟨rfl, hb2⟩
                  have RES := Below.keep hb2 z1 HR.out.res
                  have M2 := Below.keep hb2 z2 HR.out.m
                  have HOW := Lib.hid (own_below HR.out.own hb2)
                  have HB2 := Lib.hid (HR.out.bel.trans (hb2.mono (by omega)))
                  have z3 : w.heap.size < w2.heap.size := by have := hb2.size; omega
                  have z4 : M < w2.heap.size := by have := hb2.size; omega
                  have q0 : w2.cell? ⟨w.heap.size, 0, none⟩ = some (.slice none 0 0) := cells_of RES 0
                  have q1 : w2.cell? ⟨w.heap.size, 1, none⟩ = some (.int .i64 0) := cells_of RES 1
                  have q2 : w2.cell? ⟨w.heap.size, 2, none⟩ = some (.string ⟨#[]⟩) := cells_of RES 2
                  have q3 : w2.cell? ⟨w.heap.size, 3, none⟩ = some (.bool false) := cells_of RES 3
                  have g0 := free_of RES 0
                  have g1 := free_of RES 1
                  have g2 := free_of RES 2
                  have g3 := free_of RES 3
                  have p0 : w2.cell? ⟨M, 0, none⟩ = some (.slice va done.length vc) := cells_of M2 0
                  have p1 : w2.cell? ⟨M, 1, none⟩ = some (.int .i64 0) := cells_of M2 1
                  have p2 : w2.cell? ⟨M, 2, none⟩ = some (.string ⟨#[]⟩) := cells_of M2 2
                  have p3 : w2.cell? ⟨M, 3, none⟩ = some (.bool false) := cells_of M2 3
                  have h1 := free_of M2 1
                  have h2 := free_of M2 2
                  clear RES M2 hb2
                  go_wp2
                  refine bodyPost_ret (v := .tuple #[.agg #[.slice none 0 0, .int .i64 0, .string ⟨#[]⟩, .bool false], .int .i64 3]) (by simp [results, Try.results94, go_sem, q0, q1, q2, q3, hn1, hn2, z3, z4]) rfl ?_
                  rw [hR.out]
                  refine ⟨_, rfl, World.ownsRow_nil _ _ _ _, ?_⟩
                  exact ((((((HB2.out.setCell (by show w.heap.size ≤ M; omega) _).setCell (by show w.heap.size ≤ M; omega) _).setCell (by show w.heap.size ≤ w.heap.size; omega) _).setCell (by show w.heap.size ≤ w.heap.size; omega) _).setCell (by show w.heap.size ≤ w.heap.size; omega) _).setCell (by show w.heap.size ≤ w.heap.size; omega) _).alloc (by simp; omega) _
          · have a1 : (((y[0]'hyp).toNat : Int) == 41) = false := by rw [hyc]; exact beq_toNat (x := 41) (by omega) h41
            have a2 : (((y[0]'hyp).toNat : Int) != 41) = true := by rw [bne, a1]; rfl
            have HN := fun W => Lib.hid (refNext_any y W (by omega))
            cases hf : firstL (L y) with
            | none =>
              rw [hf, ftV_none] at HN
              have hR := Lib.hid (show X = ([], (0, []), false, 9) by
                rw [HXS.out, HR.out.loop.stop hf, hy]
                show res (sigR (done, c :: u)) = _
                unfold sigR
                split
                · rename_i heq
                  exact absurd (List.cons.inj (Prod.mk.inj heq).2).1 h41
                · rfl)
              clear hy hyc hf h41
              go_wp2_with fail
              refine (HN _).out.mono ?_
              rintro e w2 ⟨rfl, hb2⟩
              have RES := Below.keep hb2 z1 HR.out.res
              have HB2 := Lib.hid (HR.out.bel.trans (hb2.mono (by omega)))
              have z3 : w.heap.size < w2.heap.size := by have := hb2.size; omega
              have q0 : w2.cell? ⟨w.heap.size, 0, none⟩ = some (.slice none 0 0) := cells_of RES 0
              have q1 : w2.cell? ⟨w.heap.size, 1, none⟩ = some (.int .i64 0) := cells_of RES 1
              have q2 : w2.cell? ⟨w.heap.size, 2, none⟩ = some (.string ⟨#[]⟩) := cells_of RES 2
              have q3 : w2.cell? ⟨w.heap.size, 3, none⟩ = some (.bool false) := cells_of RES 3
              have g0 := free_of RES 0
              have g1 := free_of RES 1
              have g2 := free_of RES 2
              have g3 := free_of RES 3
              clear RES hb2
              go_wp2
              refine bodyPost_ret (v := .tuple #[.agg #[.slice none 0 0, .int .i64 0, .string ⟨#[]⟩, .bool false], .int .i64 9]) (by simp [results, Try.results94, go_sem, q0, q1, q2, q3, z3]) rfl (HZ.out _ _ _ hR.out rfl ?_)
              exact ((((HB2.out.setCell (Nat.le_refl _) _).setCell (Nat.le_refl _) _).setCell (Nat.le_refl _) _).setCell (Nat.le_refl _) _).alloc (by simp; omega) _
            | some q =>
              rw [hf, ftV_some] at HN
              have htp := tlen_pos q
              have htl := firstL_len hf
              rw [← size_L] at htl
              have hn0 : (((tlen q : Nat) : Int) == 0) = false := by rw [beq_eq_false_iff_ne]; omega
              have hx' : L (y.extract (tlen q) y.size) = (L y).drop (tlen q) := Lib.extract_to_end y _
              have hz' : (y.extract (tlen q) y.size).size < gk := by rw [size_L, hx', List.length_drop, ← size_L]; omega
              have HF := Lib.hid hf
              have HX' := Lib.hid hx'
              obtain ⟨i0, hi, hz0, hzz1, hz2⟩ := info_parts Try.info98
              generalize hqn : mkB q.2 = qn at *
              generalize hqd : q.1 = qd at *
              generalize hqm : tlen q = qm at *
              have HQN := Lib.hid hqn
              have HQD := Lib.hid hqd
              have HQM := Lib.hid hqm
              clear hqn hqd hqm hy hyc hf h41 hx'
              go_wp2_with fail
              refine (HN _).out.mono ?_
              rintro e w2 ⟨rfl, hb2⟩
              have M2 := Below.keep hb2 z2 HR.out.m
              have HOWN := Lib.hid (own_below HR.out.own hb2)
              have z3 : M < w2.heap.size := by have := hb2.size; omega
              have q0 : w2.cell? ⟨M, 0, none⟩ = some v := cells_of M2 0
              have HB2 := Lib.hid hb2
              have M2' := Lib.hid M2
              clear M2 hb2
              go_wp2_with (at_builtin; refine wpList_append_own _ rfl (.tmp 36) (.tmp 38) 96 rfl (M + 1) 98 i0 (.agg #[.int .i64 0, .string ⟨#[]⟩]) 2 24 Try.underlying96 hi hz0 hzz1 hz2 rfl (by decide) _ _ _ rfl ((HOWN.out.alloc _).alloc _) ⟨w2.heap.size + 1, 0, none⟩ 1 1 [.int .i64 (qd : Int), .string qn] rfl rfl ?c1 ?c2 ?c3 ?c4 ?c5 ?_)
              case c1 =>
                have hnc := new_cells (w2.alloc (.cells #[.int .i64 (qd : Int), .string qn] 98)) [.int .i64 (qd : Int), .string qn] 98
                rw [show (w2.alloc (.cells #[.int .i64 (qd : Int), .string qn] 98)).heap.size = w2.heap.size + 1 by simp] at hnc
                exact hnc
              case c2 => intro u hu; simp at hu; rcases hu with rfl | rfl <;> rfl
              case c3 => unfold maxLen; omega
              case c4 => omega
              case c5 => simp; omega
              intro v' w5 hown' hgrow _
              have hv : ∃ g cap, v' = .slice (some ⟨g, 0, none⟩) (done.length + 1) cap := by
                rcases hown'.2 with ⟨_, h0⟩ | ⟨g, cap, _, h, _⟩
                · omega
                · exact ⟨g, cap, h⟩
              obtain ⟨g, cap, rfl⟩ := hv
              have hown5 : w5.ownsRow (M + 1) 98 2 (.slice (some ⟨g, 0, none⟩) (done.length + 1) cap) (done.length + 1) (tcells done ++ [.int .i64 q.1, .string (mkB q.2)]) := by rw [HQN.out, HQD.out]; exact hown'
              have HRS' := Lib.hid (RS.step HR.out hwM HB2.out HF.out (x' := y.extract qm y.size) (by rw [HQM.out]; exact HX'.out) hown5 hgrow)
              have M5 := grown_keep hgrow ((HOWN.out.alloc _).alloc _) (show M < M + 1 by omega) (heap_alloc_lt (heap_alloc_lt M2'.out))
              have p0 : w5.cell? ⟨M, 0, none⟩ = some v := cells_of M5 0
              have p1 := free_of M5 0
              clear hown' hgrow hown5 M5 q0 hi hz0 hzz1 hz2
              go_wp2
              go_roundg (y.extract qm y.size).size
              case measure => exact hz'
              case rel => exact ⟨_, done ++ [q], _, rfl, Nat.le_refl _, HRS'.out⟩
    · have a1 : (((s[0]'hp).toNat : Int) == 40) = false := by rw [hc]; exact beq_toNat (x := 40) (by omega) h40
      have a2 : (((s[0]'hp).toNat : Int) != 40) = true := by rw [bne, a1]; rfl
      have hR := Lib.hid (show X = ([], (0, []), false, 9) by
        rw [← HX.out, hL]
        have : methL (c :: t) = none := by
          unfold methL
          split
          · rename_i heq
            exact absurd (List.cons.inj heq).1 h40
          · rfl
        rw [this]; rfl)
      clear hL hc h40 HX
      go_enter Try.func94, Try.ntmps94
      go_wp2
      refine bodyPost_ret (v := .tuple #[.agg #[.slice none 0 0, .int .i64 0, .string ⟨#[]⟩, .bool false], .int .i64 9]) (by simp [results, Try.results94, go_sem]) rfl (HZ.out _ _ _ hR.out rfl ?_)
      exact (Below.refl _ _).alloc (Nat.le_refl _) _
end Go.Proofs.Ytcgloepfnnfioaa
