/-
  WALKS of the reader's lists.
-/
import Derived.Test.YtcgloepfnnfioaaP1
import Derived.Test.YtcgloepfnnfioaaA1
set_option linter.unusedVariables false
set_option linter.unusedSimpArgs false
namespace Go.Proofs.Ytcgloepfnnfioaa
open Go.RowKit

/-- Up to so many items, as long as no error is there. -/
def rdL {α : Type} (f : List UInt8 → Int → α × List UInt8 × Int) : Nat → List UInt8 → Int → List α × List UInt8 × Int
  | 0, s, e => ([], s, e)
  | n + 1, s, e => if e = 0 then ((f s e).1 :: (rdL f n (f s e).2.1 (f s e).2.2).1, (rdL f n (f s e).2.1 (f s e).2.2).2) else ([], s, e)
/-- A list with its length ahead of it. -/
def rdS {α : Type} (f : List UInt8 → Int → α × List UInt8 × Int) (k : Nat) (s : List UInt8) (e : Int) : List α × List UInt8 × Int := rdL f (rdN k s e).1.toNat (rdN k s e).2.1 (rdN k s e).2.2
theorem rdL_bad {α : Type} (f : List UInt8 → Int → α × List UInt8 × Int) (n : Nat) (s : List UInt8) (e : Int) (h : e ≠ 0) : rdL f n s e = ([], s, e) := by
  cases n with
  | zero => rfl
  | succ n => simp only [rdL]; rw [if_neg h]
theorem rdL_next {α : Type} (f : List UInt8 → Int → α × List UInt8 × Int) (n : Nat) (s : List UInt8) : rdL f (n + 1) s 0 = ((f s 0).1 :: (rdL f n (f s 0).2.1 (f s 0).2.2).1, (rdL f n (f s 0).2.1 (f s 0).2.2).2) := by
  simp only [rdL, if_true]
theorem rdS_len {α : Type} (f : List UInt8 → Int → α × List UInt8 × Int) : ∀ (n : Nat) (s : List UInt8) (e : Int), (rdL f n s e).1.length ≤ n
  | 0, s, e => Nat.le_refl _
  | n + 1, s, e => by
    simp only [rdL]
    split
    · rw [List.length_cons]; have := rdS_len f n (f s e).2.1 (f s e).2.2; omega
    · exact Nat.zero_le _
theorem own_upd {q base n size : Nat} {e : TypeId} {v : Value} {xs : List Value} {w w' : World} (h : w.ownsRow base e size v n xs) (hu : Upd q w w') (hq : q < base) : w'.ownsRow base e size v n xs := by
  refine h.kept (row := some q) ⟨hu.os, hu.tape, hu.output, hu.size, fun k hk hn => hu.block k hk (fun e => hn (by rw [e]))⟩ ?_
  rcases hb : v.ownBlock with _ | k
  · exact .inl rfl
  · refine .inr (fun e => ?_)
    have := (h.lt k hb).1
    injection e with e
    omega
theorem Upd.grown {q base n size : Nat} {e : TypeId} {v : Value} {xs : List Value} {a w w' : World} (hu : Upd q a w) (h : w.ownsRow base e size v n xs) (hb : a.heap.size ≤ base) (hg : w.grownBy w' v.ownBlock) : Upd q a w' := by
  refine ⟨hg.os.trans hu.os, hg.tape.trans hu.tape, hg.output.trans hu.output, Nat.le_trans hu.size hg.size, fun k hk hn => ?_⟩
  refine (hg.block k (Nat.lt_of_lt_of_le hk hu.size) (fun e => ?_)).trans (hu.block k hk hn)
  have := (h.lt k e.symm).1
  omega
theorem RBox.grown {q base n size : Nat} {e : TypeId} {v : Value} {xs : List Value} {s : ByteArray} {x : Int} {w w' : World} (hr : RBox q s x w) (h : w.ownsRow base e size v n xs) (hq : q < base) (hg : w.grownBy w' v.ownBlock) : RBox q s x w' := by
  refine (hg.block q hr.lt (fun e => ?_)).trans hr
  have := (h.lt q e.symm).1
  omega
theorem new_at {W : World} {b : Nat} {cs : List Value} {t : TypeId} (h : b = W.heap.size) : ∀ j u, cs[j]? = some u → (W.alloc (.cells cs.toArray t)).cell? (({ block := b, off := 0 } : Addr).add j) = some u := by
  subst h
  exact new_cells W cs t
set_option maxRecDepth 1000000 in
set_option maxHeartbeats 6400000 in
theorem listHandler_read (q : Nat) (s : ByteArray) (e : Int) (w : World) (h : RBox q s e w) :
    Calls Try.prog 99 #[.pointer (some ⟨q, 0, none⟩), .int .i64 1, .func (.func 100) #[.pointer (some ⟨q, 0, none⟩)] #[]] w fun en w' => ∃ v' s', en = .returned v' ∧ w'.ownsRow w.heap.size 76 4 v' (rdS rdK 1 (L s) e).1.length ((rdS rdK 1 (L s) e).1.flatMap hcells) ∧ L s' = (rdS rdK 1 (L s) e).2.1 ∧ RBox q s' (rdS rdK 1 (L s) e).2.2 w' ∧ Upd q w w' := by
  obtain ⟨i0, hi, hz0, hz1, hz2⟩ := info_parts (show (Try.prog.info? 76).map (fun i => (i.zero, i.size, i.bytes)) = some (some (.agg #[.int .i64 0, .int .i64 0, .int .i64 0, .int .i64 0]), 4, 32) by kernel_rfl)
  have hq := h.lt
  have HN := Lib.hid (num_any q s e w h 1 (by omega))
  have hnb : 0 ≤ (rdN 1 (L s) e).1 ∧ (rdN 1 (L s) e).1 ≤ 65535 := by have := rdN1 (L s) e; omega
  have HD := Lib.hid (show rdS rdK 1 (L s) e = rdL rdK (rdN 1 (L s) e).1.toNat (rdN 1 (L s) e).2.1 (rdN 1 (L s) e).2.2 from rfl)
  clear h
  generalize rdS rdK 1 (L s) e = D at *
  generalize rdN 1 (L s) e = T at *
  obtain ⟨T1, T2, T3⟩ := T
  simp only at HN HD hnb
  obtain ⟨n, rfl⟩ : ∃ n : Nat, T1 = n := ⟨T1.toNat, by omega⟩
  have HD2 := Lib.hid (show D = rdL rdK n T2 T3 from by rw [HD.out]; rfl)
  clear HD
  go_enter Try.func99, Try.ntmps99
  go_wp2_with fail
  refine (HN.out).mono ?_
  rintro en w1 ⟨s1, rfl, hs1, hr, hu⟩
  have HD3 := Lib.hid (show D = ((rdL rdK n (L s1) T3).1, (rdL rdK n (L s1) T3).2) by rw [HD2.out, ← hs1])
  have R1 := Lib.hid hr
  have U1 := Lib.hid hu
  have lt1 := hr.lt
  obtain ⟨c0, c1⟩ := hr.cells
  clear hs1 hr hu HD2
  go_wp2
  go_loopg [7] n (fun g vv wx => ∃ (j : Nat) (xs : List Hd) (sx : ByteArray) (ex : Int), j + g = n ∧ xs.length = j ∧ D = (xs ++ (rdL rdK g (L sx) ex).1, (rdL rdK g (L sx) ex).2) ∧ wx.ownsRow w.heap.size 76 4 vv xs.length (xs.flatMap hcells) ∧ RBox q sx ex wx ∧ Upd q w wx)
  case atStart => exact ⟨0, [], s1, T3, by omega, rfl, HD3.out, World.ownsRow_nil _ _ _ _, R1.out, U1.out⟩
  case round =>
    obtain ⟨j, xs, sx, ex, hjg, hxl, hd, hown, hr, hu⟩ := hrel
    obtain ⟨A, c, rfl⟩ := own_form hown
    have HDX := Lib.hid hd
    have HO := Lib.hid hown
    have RX := Lib.hid hr
    have UX := Lib.hid hu
    have hux := hu.size
    have lt2 := hr.lt
    clear c0 c1
    obtain ⟨c0, c1⟩ := hr.cells
    have HXL := Lib.hid hxl
    have HXB := Lib.hid (show xs.length ≤ 65535 by omega)
    clear hd hown hr hu hxl
    obtain ⟨M, hM⟩ : ∃ M, xs.length = M := ⟨_, rfl⟩
    have HM := Lib.hid hM
    have hMj : M = j := by rw [← hM]; exact HXL.out
    subst hMj
    rw [hM]
    clear hM
    by_cases hj : M < n
    · have hjn : (M : Int) < (n : Int) := by omega
      by_cases he : ex = 0
      · subst he
        have hgg : gk - 1 < gk := by omega
        have HIT := Lib.hid (handler_any q sx 0 wr RX.out)
        have HG := Lib.hid (show D = ((xs ++ [(rdK (L sx) 0).1]) ++ (rdL rdK (gk - 1) (rdK (L sx) 0).2.1 (rdK (L sx) 0).2.2).1, (rdL rdK (gk - 1) (rdK (L sx) 0).2.1 (rdK (L sx) 0).2.2).2) by
          have := HDX.out
          rw [show gk = (gk - 1) + 1 by omega, rdL_next] at this
          rw [this, List.append_assoc]
          rfl)
        generalize rdK (L sx) 0 = FX at *
        obtain ⟨x, F2, F3⟩ := FX
        simp only at HIT HG
        go_wp2_with fail
        refine (HIT.out).mono ?_
        rintro en w3 ⟨s3, rfl, hs3, hr, hu⟩
        have HO3 := Lib.hid (show w3.ownsRow w.heap.size 76 4 (.slice A M c) M (xs.flatMap hcells) by have := own_upd HO.out hu (by omega); rwa [HM.out] at this)
        have R3 := Lib.hid hr
        have U3 := Lib.hid (UX.out.trans hu)
        have HG3 := Lib.hid (show D = ((xs ++ [x]) ++ (rdL rdK (gk - 1) (L s3) F3).1, (rdL rdK (gk - 1) (L s3) F3).2) by rw [hs3]; exact HG.out)
        have hs3 := hu.size
        clear hr hu c0 c1 HG
        go_wp2_with (at_builtin; refine wpList_append_own _ rfl (.tmp 23) (.tmp 26) 36 rfl w.heap.size 76 i0 (.agg #[.int .i64 0, .int .i64 0, .int .i64 0, .int .i64 0]) 4 32 Try.underlying36 hi hz0 hz1 hz2 rfl (by decide) _ _ _ rfl (World.ownsRow.alloc HO3.out (.cells #[.int .i64 x.fr, .int .i64 x.to, .int .i64 x.at_, .int .i64 x.cl] 76)) ⟨_, 0, none⟩ 1 1 [.int .i64 x.fr, .int .i64 x.to, .int .i64 x.at_, .int .i64 x.cl] rfl rfl ?a1 ?a2 ?a3 ?a4 ?a5 ?_)
        case a1 => exact new_at (by simp)
        case a2 => intro u hu; simp only [List.mem_cons, List.not_mem_nil, or_false] at hu; rcases hu with rfl | rfl | rfl | rfl <;> rfl
        case a3 => unfold maxLen; omega
        case a4 => omega
        case a5 => simp; omega
        intro v4 w4 hown hg _
        have HO4 := Lib.hid (show w4.ownsRow w.heap.size 76 4 v4 (xs ++ [x]).length ((xs ++ [x]).flatMap hcells) by
          rw [List.length_append, List.flatMap_append, HM.out]
          exact hown)
        have HO5 := World.ownsRow.alloc HO3.out (.cells #[.int .i64 x.fr, .int .i64 x.to, .int .i64 x.at_, .int .i64 x.cl] 76)
        have R4 := Lib.hid ((R3.out.alloc (.cells #[.int .i64 x.fr, .int .i64 x.to, .int .i64 x.at_, .int .i64 x.cl] 76)).grown HO5 (by omega) hg)
        have U4 := Lib.hid ((U3.out.alloc (.cells #[.int .i64 x.fr, .int .i64 x.to, .int .i64 x.at_, .int .i64 x.cl] 76)).grown HO5 (Nat.le_refl _) hg)
        clear hown hg HO5
        go_wp2
        go_roundg (gk - 1)
        case measure => exact hgg
        case rel => exact ⟨M + 1, xs ++ [x], s3, F3, by omega, by rw [List.length_append, HM.out]; rfl, HG3.out, HO4.out, R4.out, U4.out⟩
      · have HF := Lib.hid (show D = (xs, L sx, ex) by rw [HDX.out, rdL_bad _ _ _ _ he, List.append_nil])
        have g1 : (ex == 0) = false := by simpa using he
        clear he
        go_wp2
        go_ret
        refine ⟨_, sx, rfl, ?_, ?_, ?_, UX.out⟩
        · rw [HF.out]; have := HO.out; rwa [HM.out] at this ⊢
        · rw [HF.out]
        · rw [HF.out]; exact RX.out
    · have hg0 : gk = 0 := by omega
      have HF := Lib.hid (show D = (xs, L sx, ex) by rw [HDX.out, hg0]; simp [rdL])
      clear hg0
      go_wp2
      go_ret
      refine ⟨_, sx, rfl, ?_, ?_, ?_, UX.out⟩
      · rw [HF.out]; have := HO.out; rwa [HM.out] at this ⊢
      · rw [HF.out]
      · rw [HF.out]; exact RX.out
set_option maxRecDepth 1000000 in
set_option maxHeartbeats 6400000 in
theorem listConst_read (q : Nat) (s : ByteArray) (e : Int) (w : World) (h : RBox q s e w) :
    Calls Try.prog 64 #[.pointer (some ⟨q, 0, none⟩), .int .i64 2, .func (.func 65) #[.pointer (some ⟨q, 0, none⟩)] #[]] w fun en w' => ∃ v' s', en = .returned v' ∧ w'.ownsRow w.heap.size 47 6 v' (rdS rdC 2 (L s) e).1.length ((rdS rdC 2 (L s) e).1.flatMap ccells) ∧ L s' = (rdS rdC 2 (L s) e).2.1 ∧ RBox q s' (rdS rdC 2 (L s) e).2.2 w' ∧ Upd q w w' := by
  obtain ⟨i0, hi, hz0, hz1, hz2⟩ := info_parts (show (Try.prog.info? 47).map (fun i => (i.zero, i.size, i.bytes)) = some (some (.agg #[.int .i64 0, .string ⟨#[]⟩, .int .i64 0, .int .i64 0, .int .i64 0, .int .i64 0]), 6, 56) by kernel_rfl)
  have hq := h.lt
  have HN := Lib.hid (num_any q s e w h 2 (by omega))
  have hnb : 0 ≤ (rdN 2 (L s) e).1 ∧ (rdN 2 (L s) e).1 ≤ 65535 := by exact rdN2 (L s) e
  have HD := Lib.hid (show rdS rdC 2 (L s) e = rdL rdC (rdN 2 (L s) e).1.toNat (rdN 2 (L s) e).2.1 (rdN 2 (L s) e).2.2 from rfl)
  clear h
  generalize rdS rdC 2 (L s) e = D at *
  generalize rdN 2 (L s) e = T at *
  obtain ⟨T1, T2, T3⟩ := T
  simp only at HN HD hnb
  obtain ⟨n, rfl⟩ : ∃ n : Nat, T1 = n := ⟨T1.toNat, by omega⟩
  have HD2 := Lib.hid (show D = rdL rdC n T2 T3 from by rw [HD.out]; rfl)
  clear HD
  go_enter Try.func64, Try.ntmps64
  go_wp2_with fail
  refine (HN.out).mono ?_
  rintro en w1 ⟨s1, rfl, hs1, hr, hu⟩
  have HD3 := Lib.hid (show D = ((rdL rdC n (L s1) T3).1, (rdL rdC n (L s1) T3).2) by rw [HD2.out, ← hs1])
  have R1 := Lib.hid hr
  have U1 := Lib.hid hu
  have lt1 := hr.lt
  obtain ⟨c0, c1⟩ := hr.cells
  clear hs1 hr hu HD2
  go_wp2
  go_loopg [7] n (fun g vv wx => ∃ (j : Nat) (xs : List Cn) (sx : ByteArray) (ex : Int), j + g = n ∧ xs.length = j ∧ D = (xs ++ (rdL rdC g (L sx) ex).1, (rdL rdC g (L sx) ex).2) ∧ wx.ownsRow w.heap.size 47 6 vv xs.length (xs.flatMap ccells) ∧ RBox q sx ex wx ∧ Upd q w wx)
  case atStart => exact ⟨0, [], s1, T3, by omega, rfl, HD3.out, World.ownsRow_nil _ _ _ _, R1.out, U1.out⟩
  case round =>
    obtain ⟨j, xs, sx, ex, hjg, hxl, hd, hown, hr, hu⟩ := hrel
    obtain ⟨A, c, rfl⟩ := own_form hown
    have HDX := Lib.hid hd
    have HO := Lib.hid hown
    have RX := Lib.hid hr
    have UX := Lib.hid hu
    have hux := hu.size
    have lt2 := hr.lt
    clear c0 c1
    obtain ⟨c0, c1⟩ := hr.cells
    have HXL := Lib.hid hxl
    have HXB := Lib.hid (show xs.length ≤ 65535 by omega)
    clear hd hown hr hu hxl
    obtain ⟨M, hM⟩ : ∃ M, xs.length = M := ⟨_, rfl⟩
    have HM := Lib.hid hM
    have hMj : M = j := by rw [← hM]; exact HXL.out
    subst hMj
    rw [hM]
    clear hM
    by_cases hj : M < n
    · have hjn : (M : Int) < (n : Int) := by omega
      by_cases he : ex = 0
      · subst he
        have hgg : gk - 1 < gk := by omega
        have HIT := Lib.hid (constant_any q sx 0 wr RX.out)
        have HG := Lib.hid (show D = ((xs ++ [(rdC (L sx) 0).1]) ++ (rdL rdC (gk - 1) (rdC (L sx) 0).2.1 (rdC (L sx) 0).2.2).1, (rdL rdC (gk - 1) (rdC (L sx) 0).2.1 (rdC (L sx) 0).2.2).2) by
          have := HDX.out
          rw [show gk = (gk - 1) + 1 by omega, rdL_next] at this
          rw [this, List.append_assoc]
          rfl)
        generalize rdC (L sx) 0 = FX at *
        obtain ⟨x, F2, F3⟩ := FX
        simp only [constV] at HIT HG
        go_wp2_with fail
        refine (HIT.out).mono ?_
        rintro en w3 ⟨s3, rfl, hs3, hr, hu⟩
        have HO3 := Lib.hid (show w3.ownsRow w.heap.size 47 6 (.slice A M c) M (xs.flatMap ccells) by have := own_upd HO.out hu (by omega); rwa [HM.out] at this)
        have R3 := Lib.hid hr
        have U3 := Lib.hid (UX.out.trans hu)
        have HG3 := Lib.hid (show D = ((xs ++ [x]) ++ (rdL rdC (gk - 1) (L s3) F3).1, (rdL rdC (gk - 1) (L s3) F3).2) by rw [hs3]; exact HG.out)
        have hs3 := hu.size
        clear hr hu c0 c1 HG
        go_wp2_with (at_builtin; refine wpList_append_own _ rfl (.tmp 23) (.tmp 26) 22 rfl w.heap.size 47 i0 (.agg #[.int .i64 0, .string ⟨#[]⟩, .int .i64 0, .int .i64 0, .int .i64 0, .int .i64 0]) 6 56 Try.underlying22 hi hz0 hz1 hz2 rfl (by decide) _ _ _ rfl (World.ownsRow.alloc HO3.out (.cells #[.int .i64 x.tag, .string x.text, .int .i64 x.n, .int .i64 x.a, .int .i64 x.b, .int .i64 x.c] 47)) ⟨_, 0, none⟩ 1 1 [.int .i64 x.tag, .string x.text, .int .i64 x.n, .int .i64 x.a, .int .i64 x.b, .int .i64 x.c] rfl rfl ?a1 ?a2 ?a3 ?a4 ?a5 ?_)
        case a1 => exact new_at (by simp)
        case a2 => intro u hu; simp only [List.mem_cons, List.not_mem_nil, or_false] at hu; rcases hu with rfl | rfl | rfl | rfl | rfl | rfl <;> rfl
        case a3 => unfold maxLen; omega
        case a4 => omega
        case a5 => simp; omega
        intro v4 w4 hown hg _
        have HO4 := Lib.hid (show w4.ownsRow w.heap.size 47 6 v4 (xs ++ [x]).length ((xs ++ [x]).flatMap ccells) by
          rw [List.length_append, List.flatMap_append, HM.out]
          exact hown)
        have HO5 := World.ownsRow.alloc HO3.out (.cells #[.int .i64 x.tag, .string x.text, .int .i64 x.n, .int .i64 x.a, .int .i64 x.b, .int .i64 x.c] 47)
        have R4 := Lib.hid ((R3.out.alloc (.cells #[.int .i64 x.tag, .string x.text, .int .i64 x.n, .int .i64 x.a, .int .i64 x.b, .int .i64 x.c] 47)).grown HO5 (by omega) hg)
        have U4 := Lib.hid ((U3.out.alloc (.cells #[.int .i64 x.tag, .string x.text, .int .i64 x.n, .int .i64 x.a, .int .i64 x.b, .int .i64 x.c] 47)).grown HO5 (Nat.le_refl _) hg)
        clear hown hg HO5
        go_wp2
        go_roundg (gk - 1)
        case measure => exact hgg
        case rel => exact ⟨M + 1, xs ++ [x], s3, F3, by omega, by rw [List.length_append, HM.out]; rfl, HG3.out, HO4.out, R4.out, U4.out⟩
      · have HF := Lib.hid (show D = (xs, L sx, ex) by rw [HDX.out, rdL_bad _ _ _ _ he, List.append_nil])
        have g1 : (ex == 0) = false := by simpa using he
        clear he
        go_wp2
        go_ret
        refine ⟨_, sx, rfl, ?_, ?_, ?_, UX.out⟩
        · rw [HF.out]; have := HO.out; rwa [HM.out] at this ⊢
        · rw [HF.out]
        · rw [HF.out]; exact RX.out
    · have hg0 : gk = 0 := by omega
      have HF := Lib.hid (show D = (xs, L sx, ex) by rw [HDX.out, hg0]; simp [rdL])
      clear hg0
      go_wp2
      go_ret
      refine ⟨_, sx, rfl, ?_, ?_, ?_, UX.out⟩
      · rw [HF.out]; have := HO.out; rwa [HM.out] at this ⊢
      · rw [HF.out]
      · rw [HF.out]; exact RX.out
/-- A link; a head, in memory. -/
def icell1 (r : Int) : List Value := [.int .i64 r]
def hcell7 (x : Int × Int × Int) : List Value := [.int .i64 x.1, .int .i64 x.2.1, .int .i64 x.2.2, .int .i64 0, .int .i64 0, .string ⟨#[]⟩, .slice none 0 0]
set_option maxRecDepth 1000000 in
set_option maxHeartbeats 6400000 in
theorem listLink_read (q : Nat) (s : ByteArray) (e : Int) (w : World) (h : RBox q s e w) :
    Calls Try.prog 68 #[.pointer (some ⟨q, 0, none⟩), .int .i64 1, .func (.func 67) #[.pointer (some ⟨q, 0, none⟩)] #[]] w fun en w' => ∃ v' s', en = .returned v' ∧ w'.ownsRow w.heap.size 3 1 v' (rdS (rdN 2) 1 (L s) e).1.length ((rdS (rdN 2) 1 (L s) e).1.flatMap icell1) ∧ L s' = (rdS (rdN 2) 1 (L s) e).2.1 ∧ RBox q s' (rdS (rdN 2) 1 (L s) e).2.2 w' ∧ Upd q w w' := by
  obtain ⟨i0, hi, hz0, hz1, hz2⟩ := info_parts (show (Try.prog.info? 3).map (fun i => (i.zero, i.size, i.bytes)) = some (some (.int .i64 0), 1, 8) by kernel_rfl)
  have hq := h.lt
  have HN := Lib.hid (num_any q s e w h 1 (by omega))
  have hnb : 0 ≤ (rdN 1 (L s) e).1 ∧ (rdN 1 (L s) e).1 ≤ 65535 := by have := rdN1 (L s) e; omega
  have HD := Lib.hid (show rdS (rdN 2) 1 (L s) e = rdL (rdN 2) (rdN 1 (L s) e).1.toNat (rdN 1 (L s) e).2.1 (rdN 1 (L s) e).2.2 from rfl)
  clear h
  generalize rdS (rdN 2) 1 (L s) e = D at *
  generalize rdN 1 (L s) e = T at *
  obtain ⟨T1, T2, T3⟩ := T
  simp only at HN HD hnb
  obtain ⟨n, rfl⟩ : ∃ n : Nat, T1 = n := ⟨T1.toNat, by omega⟩
  have HD2 := Lib.hid (show D = rdL (rdN 2) n T2 T3 from by rw [HD.out]; rfl)
  clear HD
  go_enter Try.func68, Try.ntmps68
  go_wp2_with fail
  refine (HN.out).mono ?_
  rintro en w1 ⟨s1, rfl, hs1, hr, hu⟩
  have HD3 := Lib.hid (show D = ((rdL (rdN 2) n (L s1) T3).1, (rdL (rdN 2) n (L s1) T3).2) by rw [HD2.out, ← hs1])
  have R1 := Lib.hid hr
  have U1 := Lib.hid hu
  have lt1 := hr.lt
  obtain ⟨c0, c1⟩ := hr.cells
  clear hs1 hr hu HD2
  go_wp2
  go_loopg [7] n (fun g vv wx => ∃ (j : Nat) (xs : List Int) (sx : ByteArray) (ex : Int), j + g = n ∧ xs.length = j ∧ D = (xs ++ (rdL (rdN 2) g (L sx) ex).1, (rdL (rdN 2) g (L sx) ex).2) ∧ wx.ownsRow w.heap.size 3 1 vv xs.length (xs.flatMap icell1) ∧ RBox q sx ex wx ∧ Upd q w wx)
  case atStart => exact ⟨0, [], s1, T3, by omega, rfl, HD3.out, World.ownsRow_nil _ _ _ _, R1.out, U1.out⟩
  case round =>
    obtain ⟨j, xs, sx, ex, hjg, hxl, hd, hown, hr, hu⟩ := hrel
    obtain ⟨A, c, rfl⟩ := own_form hown
    have HDX := Lib.hid hd
    have HO := Lib.hid hown
    have RX := Lib.hid hr
    have UX := Lib.hid hu
    have hux := hu.size
    have lt2 := hr.lt
    clear c0 c1
    obtain ⟨c0, c1⟩ := hr.cells
    have HXL := Lib.hid hxl
    have HXB := Lib.hid (show xs.length ≤ 65535 by omega)
    clear hd hown hr hu hxl
    obtain ⟨M, hM⟩ : ∃ M, xs.length = M := ⟨_, rfl⟩
    have HM := Lib.hid hM
    have hMj : M = j := by rw [← hM]; exact HXL.out
    subst hMj
    rw [hM]
    clear hM
    by_cases hj : M < n
    · have hjn : (M : Int) < (n : Int) := by omega
      by_cases he : ex = 0
      · subst he
        have hgg : gk - 1 < gk := by omega
        have HIT := Lib.hid (link_any q sx 0 wr RX.out)
        have HG := Lib.hid (show D = ((xs ++ [((rdN 2) (L sx) 0).1]) ++ (rdL (rdN 2) (gk - 1) ((rdN 2) (L sx) 0).2.1 ((rdN 2) (L sx) 0).2.2).1, (rdL (rdN 2) (gk - 1) ((rdN 2) (L sx) 0).2.1 ((rdN 2) (L sx) 0).2.2).2) by
          have := HDX.out
          rw [show gk = (gk - 1) + 1 by omega, rdL_next] at this
          rw [this, List.append_assoc]
          rfl)
        generalize (rdN 2) (L sx) 0 = FX at *
        obtain ⟨x, F2, F3⟩ := FX
        simp only at HIT HG
        go_wp2_with fail
        refine (HIT.out).mono ?_
        rintro en w3 ⟨s3, rfl, hs3, hr, hu⟩
        have HO3 := Lib.hid (show w3.ownsRow w.heap.size 3 1 (.slice A M c) M (xs.flatMap icell1) by have := own_upd HO.out hu (by omega); rwa [HM.out] at this)
        have R3 := Lib.hid hr
        have U3 := Lib.hid (UX.out.trans hu)
        have HG3 := Lib.hid (show D = ((xs ++ [x]) ++ (rdL (rdN 2) (gk - 1) (L s3) F3).1, (rdL (rdN 2) (gk - 1) (L s3) F3).2) by rw [hs3]; exact HG.out)
        have hs3 := hu.size
        clear hr hu c0 c1 HG
        go_wp2_with (at_builtin; refine wpList_append_own _ rfl (.tmp 23) (.tmp 26) 23 rfl w.heap.size 3 i0 (.int .i64 0) 1 8 Try.underlying23 hi hz0 hz1 hz2 rfl (by decide) _ _ _ rfl (World.ownsRow.alloc HO3.out (.cells #[.int .i64 x] 3)) ⟨_, 0, none⟩ 1 1 [.int .i64 x] rfl rfl ?a1 ?a2 ?a3 ?a4 ?a5 ?_)
        case a1 => exact new_at (by simp)
        case a2 => intro u hu; simp only [List.mem_cons, List.not_mem_nil, or_false] at hu; subst hu; rfl
        case a3 => unfold maxLen; omega
        case a4 => omega
        case a5 => simp; omega
        intro v4 w4 hown hg _
        have HO4 := Lib.hid (show w4.ownsRow w.heap.size 3 1 v4 (xs ++ [x]).length ((xs ++ [x]).flatMap icell1) by
          rw [List.length_append, List.flatMap_append, HM.out]
          exact hown)
        have HO5 := World.ownsRow.alloc HO3.out (.cells #[.int .i64 x] 3)
        have R4 := Lib.hid ((R3.out.alloc (.cells #[.int .i64 x] 3)).grown HO5 (by omega) hg)
        have U4 := Lib.hid ((U3.out.alloc (.cells #[.int .i64 x] 3)).grown HO5 (Nat.le_refl _) hg)
        clear hown hg HO5
        go_wp2
        go_roundg (gk - 1)
        case measure => exact hgg
        case rel => exact ⟨M + 1, xs ++ [x], s3, F3, by omega, by rw [List.length_append, HM.out]; rfl, HG3.out, HO4.out, R4.out, U4.out⟩
      · have HF := Lib.hid (show D = (xs, L sx, ex) by rw [HDX.out, rdL_bad _ _ _ _ he, List.append_nil])
        have g1 : (ex == 0) = false := by simpa using he
        clear he
        go_wp2
        go_ret
        refine ⟨_, sx, rfl, ?_, ?_, ?_, UX.out⟩
        · rw [HF.out]; have := HO.out; rwa [HM.out] at this ⊢
        · rw [HF.out]
        · rw [HF.out]; exact RX.out
    · have hg0 : gk = 0 := by omega
      have HF := Lib.hid (show D = (xs, L sx, ex) by rw [HDX.out, hg0]; simp [rdL])
      clear hg0
      go_wp2
      go_ret
      refine ⟨_, sx, rfl, ?_, ?_, ?_, UX.out⟩
      · rw [HF.out]; have := HO.out; rwa [HM.out] at this ⊢
      · rw [HF.out]
      · rw [HF.out]; exact RX.out
set_option maxRecDepth 1000000 in
set_option maxHeartbeats 6400000 in
theorem listHead_read (q : Nat) (s : ByteArray) (e : Int) (w : World) (h : RBox q s e w) :
    Calls Try.prog 69 #[.pointer (some ⟨q, 0, none⟩), .int .i64 1, .func (.func 70) #[.pointer (some ⟨q, 0, none⟩)] #[]] w fun en w' => ∃ v' s', en = .returned v' ∧ w'.ownsRow w.heap.size 38 7 v' (rdS rdH 1 (L s) e).1.length ((rdS rdH 1 (L s) e).1.flatMap hcell7) ∧ L s' = (rdS rdH 1 (L s) e).2.1 ∧ RBox q s' (rdS rdH 1 (L s) e).2.2 w' ∧ Upd q w w' := by
  obtain ⟨i0, hi, hz0, hz1, hz2⟩ := info_parts (show (Try.prog.info? 38).map (fun i => (i.zero, i.size, i.bytes)) = some (some (.agg #[.int .i64 0, .int .i64 0, .int .i64 0, .int .i64 0, .int .i64 0, .string ⟨#[]⟩, .slice none 0 0]), 7, 80) by kernel_rfl)
  have hq := h.lt
  have HN := Lib.hid (num_any q s e w h 1 (by omega))
  have hnb : 0 ≤ (rdN 1 (L s) e).1 ∧ (rdN 1 (L s) e).1 ≤ 65535 := by have := rdN1 (L s) e; omega
  have HD := Lib.hid (show rdS rdH 1 (L s) e = rdL rdH (rdN 1 (L s) e).1.toNat (rdN 1 (L s) e).2.1 (rdN 1 (L s) e).2.2 from rfl)
  clear h
  generalize rdS rdH 1 (L s) e = D at *
  generalize rdN 1 (L s) e = T at *
  obtain ⟨T1, T2, T3⟩ := T
  simp only at HN HD hnb
  obtain ⟨n, rfl⟩ : ∃ n : Nat, T1 = n := ⟨T1.toNat, by omega⟩
  have HD2 := Lib.hid (show D = rdL rdH n T2 T3 from by rw [HD.out]; rfl)
  clear HD
  go_enter Try.func69, Try.ntmps69
  go_wp2_with fail
  refine (HN.out).mono ?_
  rintro en w1 ⟨s1, rfl, hs1, hr, hu⟩
  have HD3 := Lib.hid (show D = ((rdL rdH n (L s1) T3).1, (rdL rdH n (L s1) T3).2) by rw [HD2.out, ← hs1])
  have R1 := Lib.hid hr
  have U1 := Lib.hid hu
  have lt1 := hr.lt
  obtain ⟨c0, c1⟩ := hr.cells
  clear hs1 hr hu HD2
  go_wp2
  go_loopg [7] n (fun g vv wx => ∃ (j : Nat) (xs : List (Int × Int × Int)) (sx : ByteArray) (ex : Int), j + g = n ∧ xs.length = j ∧ D = (xs ++ (rdL rdH g (L sx) ex).1, (rdL rdH g (L sx) ex).2) ∧ wx.ownsRow w.heap.size 38 7 vv xs.length (xs.flatMap hcell7) ∧ RBox q sx ex wx ∧ Upd q w wx)
  case atStart => exact ⟨0, [], s1, T3, by omega, rfl, HD3.out, World.ownsRow_nil _ _ _ _, R1.out, U1.out⟩
  case round =>
    obtain ⟨j, xs, sx, ex, hjg, hxl, hd, hown, hr, hu⟩ := hrel
    obtain ⟨A, c, rfl⟩ := own_form hown
    have HDX := Lib.hid hd
    have HO := Lib.hid hown
    have RX := Lib.hid hr
    have UX := Lib.hid hu
    have hux := hu.size
    have lt2 := hr.lt
    clear c0 c1
    obtain ⟨c0, c1⟩ := hr.cells
    have HXL := Lib.hid hxl
    have HXB := Lib.hid (show xs.length ≤ 65535 by omega)
    clear hd hown hr hu hxl
    obtain ⟨M, hM⟩ : ∃ M, xs.length = M := ⟨_, rfl⟩
    have HM := Lib.hid hM
    have hMj : M = j := by rw [← hM]; exact HXL.out
    subst hMj
    rw [hM]
    clear hM
    by_cases hj : M < n
    · have hjn : (M : Int) < (n : Int) := by omega
      by_cases he : ex = 0
      · subst he
        have hgg : gk - 1 < gk := by omega
        have HIT := Lib.hid (head_any q sx 0 wr RX.out)
        have HG := Lib.hid (show D = ((xs ++ [(rdH (L sx) 0).1]) ++ (rdL rdH (gk - 1) (rdH (L sx) 0).2.1 (rdH (L sx) 0).2.2).1, (rdL rdH (gk - 1) (rdH (L sx) 0).2.1 (rdH (L sx) 0).2.2).2) by
          have := HDX.out
          rw [show gk = (gk - 1) + 1 by omega, rdL_next] at this
          rw [this, List.append_assoc]
          rfl)
        generalize rdH (L sx) 0 = FX at *
        obtain ⟨x, F2, F3⟩ := FX
        simp only at HIT HG
        go_wp2_with fail
        refine (HIT.out).mono ?_
        rintro en w3 ⟨s3, rfl, hs3, hr, hu⟩
        have HO3 := Lib.hid (show w3.ownsRow w.heap.size 38 7 (.slice A M c) M (xs.flatMap hcell7) by have := own_upd HO.out hu (by omega); rwa [HM.out] at this)
        have R3 := Lib.hid hr
        have U3 := Lib.hid (UX.out.trans hu)
        have HG3 := Lib.hid (show D = ((xs ++ [x]) ++ (rdL rdH (gk - 1) (L s3) F3).1, (rdL rdH (gk - 1) (L s3) F3).2) by rw [hs3]; exact HG.out)
        have hs3 := hu.size
        clear hr hu c0 c1 HG
        go_wp2_with (at_builtin; refine wpList_append_own _ rfl (.tmp 23) (.tmp 26) 24 rfl w.heap.size 38 i0 (.agg #[.int .i64 0, .int .i64 0, .int .i64 0, .int .i64 0, .int .i64 0, .string ⟨#[]⟩, .slice none 0 0]) 7 80 Try.underlying24 hi hz0 hz1 hz2 rfl (by decide) _ _ _ rfl (World.ownsRow.alloc HO3.out (.cells #[.int .i64 x.1, .int .i64 x.2.1, .int .i64 x.2.2, .int .i64 0, .int .i64 0, .string ⟨#[]⟩, .slice none 0 0] 38)) ⟨_, 0, none⟩ 1 1 [.int .i64 x.1, .int .i64 x.2.1, .int .i64 x.2.2, .int .i64 0, .int .i64 0, .string ⟨#[]⟩, .slice none 0 0] rfl rfl ?a1 ?a2 ?a3 ?a4 ?a5 ?_)
        case a1 => exact new_at (by simp)
        case a2 => intro u hu; simp only [List.mem_cons, List.not_mem_nil, or_false] at hu; rcases hu with rfl | rfl | rfl | rfl | rfl | rfl | rfl <;> rfl
        case a3 => unfold maxLen; omega
        case a4 => omega
        case a5 => simp; omega
        intro v4 w4 hown hg _
        have HO4 := Lib.hid (show w4.ownsRow w.heap.size 38 7 v4 (xs ++ [x]).length ((xs ++ [x]).flatMap hcell7) by
          rw [List.length_append, List.flatMap_append, HM.out]
          exact hown)
        have HO5 := World.ownsRow.alloc HO3.out (.cells #[.int .i64 x.1, .int .i64 x.2.1, .int .i64 x.2.2, .int .i64 0, .int .i64 0, .string ⟨#[]⟩, .slice none 0 0] 38)
        have R4 := Lib.hid ((R3.out.alloc (.cells #[.int .i64 x.1, .int .i64 x.2.1, .int .i64 x.2.2, .int .i64 0, .int .i64 0, .string ⟨#[]⟩, .slice none 0 0] 38)).grown HO5 (by omega) hg)
        have U4 := Lib.hid ((U3.out.alloc (.cells #[.int .i64 x.1, .int .i64 x.2.1, .int .i64 x.2.2, .int .i64 0, .int .i64 0, .string ⟨#[]⟩, .slice none 0 0] 38)).grown HO5 (Nat.le_refl _) hg)
        clear hown hg HO5
        go_wp2
        go_roundg (gk - 1)
        case measure => exact hgg
        case rel => exact ⟨M + 1, xs ++ [x], s3, F3, by omega, by rw [List.length_append, HM.out]; rfl, HG3.out, HO4.out, R4.out, U4.out⟩
      · have HF := Lib.hid (show D = (xs, L sx, ex) by rw [HDX.out, rdL_bad _ _ _ _ he, List.append_nil])
        have g1 : (ex == 0) = false := by simpa using he
        clear he
        go_wp2
        go_ret
        refine ⟨_, sx, rfl, ?_, ?_, ?_, UX.out⟩
        · rw [HF.out]; have := HO.out; rwa [HM.out] at this ⊢
        · rw [HF.out]
        · rw [HF.out]; exact RX.out
    · have hg0 : gk = 0 := by omega
      have HF := Lib.hid (show D = (xs, L sx, ex) by rw [HDX.out, hg0]; simp [rdL])
      clear hg0
      go_wp2
      go_ret
      refine ⟨_, sx, rfl, ?_, ?_, ?_, UX.out⟩
      · rw [HF.out]; have := HO.out; rwa [HM.out] at this ⊢
      · rw [HF.out]
      · rw [HF.out]; exact RX.out
end Go.Proofs.Ytcgloepfnnfioaa
