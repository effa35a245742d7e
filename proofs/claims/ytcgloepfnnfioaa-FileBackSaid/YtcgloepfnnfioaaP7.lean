/-
  WALK of the reader's list of methods.
  WALK of the reader: a file.
-/
import Derived.Test.YtcgloepfnnfioaaP6
import Derived.Test.YtcgloepfnnfioaaQ1
import Derived.Test.YtcgloepfnnfioaaS2
set_option linter.unusedVariables false
set_option linter.unusedSimpArgs false
namespace Go.Proofs.Ytcgloepfnnfioaa
open Go.RowKit

/-- The rows of handlers of the methods ps. -/
def Nest (w : World) (base : Nat) (ps : List (Mb × Value)) : Prop := ∀ p ∈ ps, w.ownsRow base 76 4 p.2 p.1.hs.length (p.1.hs.flatMap hcells)
theorem nest_grown {w w' : World} {base base' size size' n n' : Nat} {e e' : TypeId} {v v' : Value} {xs xs' : List Value} (h : w.ownsRow base e size v n xs) (h' : w.ownsRow base' e' size' v' n' xs') (hne : e ≠ e') (hg : w.grownBy w' v'.ownBlock) : w'.ownsRow base e size v n xs := by
  refine h.kept hg ?_
  rcases h.2 with ⟨rfl, _⟩ | ⟨g, cap, cur, rfl, _, hgg, _⟩
  · exact .inl rfl
  · refine .inr (fun e1 => ?_)
    rcases h'.2 with ⟨rfl, _⟩ | ⟨g', cap', cur', rfl, _, hgg', _⟩
    · simp [Value.ownBlock] at e1
    · simp [Value.ownBlock] at e1
      subst e1
      rw [hgg] at hgg'
      simp only [Option.some.injEq, Obj.cells.injEq] at hgg'
      exact hne hgg'.2.1
theorem Nest.grown {w w' : World} {base base' size' n' : Nat} {e' : TypeId} {v' : Value} {xs' : List Value} {ps : List (Mb × Value)} (h : Nest w base ps) (h' : w.ownsRow base' e' size' v' n' xs') (hne : 76 ≠ e') (hg : w.grownBy w' v'.ownBlock) : Nest w' base ps := fun p hp => nest_grown (h p hp) h' hne hg
theorem Nest.upd {q base : Nat} {w w' : World} {ps : List (Mb × Value)} (h : Nest w base ps) (hu : Upd q w w') (hq : q < base) : Nest w' base ps := fun p hp => own_upd (h p hp) hu hq
theorem Nest.alloc {base : Nat} {w : World} {ps : List (Mb × Value)} (h : Nest w base ps) (o : Obj) : Nest (w.alloc o) base ps := fun p hp => World.ownsRow.alloc (h p hp) o
theorem Nest.add {base : Nat} {w : World} {ps : List (Mb × Value)} {p : Mb × Value} (h : Nest w base ps) (hp : w.ownsRow base 76 4 p.2 p.1.hs.length (p.1.hs.flatMap hcells)) : Nest w base (ps ++ [p]) := fun x hx => by
  rcases List.mem_append.1 hx with hx | hx
  · exact h x hx
  · rw [List.mem_singleton.1 hx]
    exact hp
set_option maxRecDepth 1000000 in
set_option maxHeartbeats 6400000 in
theorem listMeth_read (q : Nat) (s : ByteArray) (e : Int) (w : World) (h : RBox q s e w) :
    Calls Try.prog 69 #[.pointer (some ⟨q, 0, none⟩), .int .i64 1, .func (.func 71) #[.pointer (some ⟨q, 0, none⟩)] #[]] w fun en w' => ∃ v' s' ps, en = .returned v' ∧ (rdS rdD 1 (L s) e).1 = ps.map Prod.fst ∧ w'.ownsRow w.heap.size 38 7 v' ps.length (mbcells ps) ∧ Nest w' w.heap.size ps ∧ L s' = (rdS rdD 1 (L s) e).2.1 ∧ RBox q s' (rdS rdD 1 (L s) e).2.2 w' ∧ Upd q w w' := by
  obtain ⟨i0, hi, hz0, hz1, hz2⟩ := info_parts (show (Try.prog.info? 38).map (fun i => (i.zero, i.size, i.bytes)) = some (some (.agg #[.int .i64 0, .int .i64 0, .int .i64 0, .int .i64 0, .int .i64 0, .string ⟨#[]⟩, .slice none 0 0]), 7, 80) by kernel_rfl)
  have hq := h.lt
  have HN := Lib.hid (num_any q s e w h 1 (by omega))
  have hnb : 0 ≤ (rdN 1 (L s) e).1 ∧ (rdN 1 (L s) e).1 ≤ 65535 := by have := rdN1 (L s) e; omega
  have HD := Lib.hid (show rdS rdD 1 (L s) e = rdL rdD (rdN 1 (L s) e).1.toNat (rdN 1 (L s) e).2.1 (rdN 1 (L s) e).2.2 from rfl)
  clear h
  generalize rdS rdD 1 (L s) e = D at *
  generalize rdN 1 (L s) e = T at *
  obtain ⟨T1, T2, T3⟩ := T
  simp only at HN HD hnb
  obtain ⟨n, rfl⟩ : ∃ n : Nat, T1 = n := ⟨T1.toNat, by omega⟩
  have HD2 := Lib.hid (show D = rdL rdD n T2 T3 from by rw [HD.out]; rfl)
  clear HD
  go_enter Try.func69, Try.ntmps69
  go_wp2_with fail
  refine (HN.out).mono ?_
  rintro en w1 ⟨s1, rfl, hs1, hr, hu⟩
  have HD3 := Lib.hid (show D = ((rdL rdD n (L s1) T3).1, (rdL rdD n (L s1) T3).2) by rw [HD2.out, ← hs1])
  have R1 := Lib.hid hr
  have U1 := Lib.hid hu
  have lt1 := hr.lt
  obtain ⟨c0, c1⟩ := hr.cells
  clear hs1 hr hu HD2
  go_wp2
  go_loopg [7] n (fun g vv wx => ∃ (j : Nat) (ps : List (Mb × Value)) (sx : ByteArray) (ex : Int), j + g = n ∧ ps.length = j ∧ D = (ps.map Prod.fst ++ (rdL rdD g (L sx) ex).1, (rdL rdD g (L sx) ex).2) ∧ wx.ownsRow w.heap.size 38 7 vv ps.length (mbcells ps) ∧ Nest wx w.heap.size ps ∧ RBox q sx ex wx ∧ Upd q w wx)
  case atStart => exact ⟨0, [], s1, T3, by omega, rfl, HD3.out, World.ownsRow_nil _ _ _ _, fun p hp => by simp at hp, R1.out, U1.out⟩
  case round =>
    obtain ⟨j, ps, sx, ex, hjg, hxl, hd, hown, hnest, hr, hu⟩ := hrel
    obtain ⟨A, c, rfl⟩ := own_form hown
    have HDX := Lib.hid hd
    have HO := Lib.hid hown
    have NX := Lib.hid hnest
    have RX := Lib.hid hr
    have UX := Lib.hid hu
    have hux := hu.size
    have lt2 := hr.lt
    clear c0 c1
    obtain ⟨c0, c1⟩ := hr.cells
    have HXL := Lib.hid hxl
    have HXB := Lib.hid (show ps.length ≤ 65535 by omega)
    clear hd hown hnest hr hu hxl
    obtain ⟨M, hM⟩ : ∃ M, ps.length = M := ⟨_, rfl⟩
    have HM := Lib.hid hM
    have hMj : M = j := by rw [← hM]; exact HXL.out
    subst hMj
    rw [hM]
    clear hM
    by_cases hj : M < n
    · have hjn : (M : Int) < (n : Int) := by omega
      by_cases he : ex = 0
      · subst he
        have hgg : gk - 1 < gk := by omega
        have HIT := Lib.hid (method_any q sx 0 wr RX.out)
        have HG := Lib.hid (show D = ((ps.map Prod.fst ++ [(rdD (L sx) 0).1]) ++ (rdL rdD (gk - 1) (rdD (L sx) 0).2.1 (rdD (L sx) 0).2.2).1, (rdL rdD (gk - 1) (rdD (L sx) 0).2.1 (rdD (L sx) 0).2.2).2) by
          have := HDX.out
          rw [show gk = (gk - 1) + 1 by omega, rdL_next] at this
          rw [this, List.append_assoc]
          rfl)
        generalize rdD (L sx) 0 = FX at *
        obtain ⟨x, F2, F3⟩ := FX
        simp only at HIT HG
        go_wp2_with fail
        refine (HIT.out).mono ?_
        rintro en w3 ⟨hv, s3, rfl, hvo, hs3, hr, hu⟩
        obtain ⟨ah, ch, rfl⟩ := own_form hvo
        have HO3 := Lib.hid (show w3.ownsRow w.heap.size 38 7 (.slice A M c) M (mbcells ps) by have := own_upd HO.out hu (by omega); rwa [HM.out] at this)
        have R3 := Lib.hid hr
        have U3 := Lib.hid (UX.out.trans hu)
        have HG3 := Lib.hid (show D = ((ps ++ [(x, Value.slice ah x.hs.length ch)]).map Prod.fst ++ (rdL rdD (gk - 1) (L s3) F3).1, (rdL rdD (gk - 1) (L s3) F3).2) by rw [hs3, List.map_append]; exact HG.out)
        have N3 := Lib.hid (show Nest w3 w.heap.size (ps ++ [(x, Value.slice ah x.hs.length ch)]) from (NX.out.upd hu (by omega)).add (own_less hvo (by omega)))
        have hs3 := hu.size
        clear hr hu c0 c1 HG hvo
        go_wp2_with (at_builtin; refine wpList_append_own _ rfl (.tmp 23) (.tmp 26) 24 rfl w.heap.size 38 i0 (.agg #[.int .i64 0, .int .i64 0, .int .i64 0, .int .i64 0, .int .i64 0, .string ⟨#[]⟩, .slice none 0 0]) 7 80 Try.underlying24 hi hz0 hz1 hz2 rfl (by decide) _ _ _ rfl (World.ownsRow.alloc HO3.out (.cells #[.int .i64 x.fl, .int .i64 x.nm, .int .i64 x.ds, .int .i64 x.ms, .int .i64 x.ml, .string x.code, .slice ah x.hs.length ch] 38)) ⟨_, 0, none⟩ 1 1 [.int .i64 x.fl, .int .i64 x.nm, .int .i64 x.ds, .int .i64 x.ms, .int .i64 x.ml, .string x.code, .slice ah x.hs.length ch] rfl rfl ?a1 ?a2 ?a3 ?a4 ?a5 ?_)
        case a1 => exact new_at (by simp)
        case a2 => intro u hu; simp only [List.mem_cons, List.not_mem_nil, or_false] at hu; rcases hu with rfl | rfl | rfl | rfl | rfl | rfl | rfl <;> rfl
        case a3 => unfold maxLen; omega
        case a4 => omega
        case a5 => simp; omega
        intro v4 w4 hown hg _
        have HO4 := Lib.hid (show w4.ownsRow w.heap.size 38 7 v4 (ps ++ [(x, Value.slice ah x.hs.length ch)]).length (mbcells (ps ++ [(x, Value.slice ah x.hs.length ch)])) by
          unfold mbcells at hown ⊢
          rw [List.length_append, List.flatMap_append, HM.out]
          exact hown)
        have HO5 := World.ownsRow.alloc HO3.out (.cells #[.int .i64 x.fl, .int .i64 x.nm, .int .i64 x.ds, .int .i64 x.ms, .int .i64 x.ml, .string x.code, .slice ah x.hs.length ch] 38)
        have R4 := Lib.hid ((R3.out.alloc (.cells #[.int .i64 x.fl, .int .i64 x.nm, .int .i64 x.ds, .int .i64 x.ms, .int .i64 x.ml, .string x.code, .slice ah x.hs.length ch] 38)).grown HO5 (by omega) hg)
        have U4 := Lib.hid ((U3.out.alloc (.cells #[.int .i64 x.fl, .int .i64 x.nm, .int .i64 x.ds, .int .i64 x.ms, .int .i64 x.ml, .string x.code, .slice ah x.hs.length ch] 38)).grown HO5 (Nat.le_refl _) hg)
        have N4 := Lib.hid ((N3.out.alloc (.cells #[.int .i64 x.fl, .int .i64 x.nm, .int .i64 x.ds, .int .i64 x.ms, .int .i64 x.ml, .string x.code, .slice ah x.hs.length ch] 38)).grown HO5 (by decide) hg)
        clear hown hg HO5
        go_wp2
        go_roundg (gk - 1)
        case measure => exact hgg
        case rel => exact ⟨M + 1, ps ++ [(x, Value.slice ah x.hs.length ch)], s3, F3, by omega, by rw [List.length_append, HM.out]; rfl, HG3.out, HO4.out, N4.out, R4.out, U4.out⟩
      · have HF := Lib.hid (show D = (ps.map Prod.fst, L sx, ex) by rw [HDX.out, rdL_bad _ _ _ _ he, List.append_nil])
        have g1 : (ex == 0) = false := by simpa using he
        clear he
        go_wp2
        go_ret
        refine ⟨_, sx, ps, rfl, ?_, ?_, NX.out, ?_, ?_, UX.out⟩
        · rw [HF.out]
        · have := HO.out; rwa [HM.out] at this ⊢
        · rw [HF.out]
        · rw [HF.out]; exact RX.out
    · have hg0 : gk = 0 := by omega
      have HF := Lib.hid (show D = (ps.map Prod.fst, L sx, ex) by rw [HDX.out, hg0]; simp [rdL])
      clear hg0
      go_wp2
      go_ret
      refine ⟨_, sx, ps, rfl, ?_, ?_, NX.out, ?_, ?_, UX.out⟩
      · rw [HF.out]
      · have := HO.out; rwa [HM.out] at this ⊢
      · rw [HF.out]
      · rw [HF.out]; exact RX.out
theorem own_len {w : World} {base : Nat} {e : TypeId} {size : Nat} {v : Value} {n : Nat} {xs : List Value} (h : w.ownsRow base e size v n xs) : n ≤ maxLen := by
  rcases h.2 with ⟨_, rfl⟩ | ⟨g, cap, cur, _, _, _, h1, h2, _⟩
  · exact Nat.zero_le _
  · exact Nat.le_trans h1 h2
theorem zip_self (ps : List (Mb × Value)) : (ps.map Prod.fst).zip (ps.map Prod.snd) = ps := by
  induction ps with
  | nil => rfl
  | cons p ps ih => rw [List.map_cons, List.map_cons, List.zip_cons_cons, ih]
theorem MRow.of_own {w : World} {base base' : Nat} {v : Value} {ps : List (Mb × Value)} (h : w.ownsRow base 38 7 v ps.length (mbcells ps)) (hn : Nest w base' ps) : MRow w.heap.size w v (ps.map Prod.fst) := by
  refine ⟨ps.map Prod.snd, by simp, fun i m hv h1 h2 => ?_, ?_⟩
  · rw [List.getElem?_map] at h1 h2
    obtain ⟨p, hp, rfl⟩ := Option.map_eq_some_iff.1 h1
    rw [hp] at h2
    simp only [Option.map_some, Option.some.injEq] at h2
    subst h2
    have := hn p (List.mem_of_getElem? hp)
    exact Row.of_own this (own_len this)
  · rw [zip_self, List.length_map]
    exact Row.of_own h (own_len h)
theorem mb_heads (l : List (Int × Int × Int)) : l.flatMap hcell7 = mbcells (l.map fun x => (headM x, .slice none 0 0)) := by
  unfold mbcells
  rw [List.flatMap_map]
  rfl
theorem nest_heads (w : World) (base : Nat) (l : List (Int × Int × Int)) : Nest w base (l.map fun x => (headM x, .slice none 0 0)) := fun p hp => by
  obtain ⟨x, _, rfl⟩ := List.mem_map.1 hp
  exact World.ownsRow_nil _ _ _ _
theorem MRow.of_heads {w : World} {base : Nat} {v : Value} {l : List (Int × Int × Int)} (h : w.ownsRow base 38 7 v l.length (l.flatMap hcell7)) : MRow w.heap.size w v (l.map headM) := by
  have h2 : w.ownsRow base 38 7 v (l.map fun x => ((headM x, .slice none 0 0) : Mb × Value)).length (mbcells (l.map fun x => (headM x, .slice none 0 0))) := by
    rw [List.length_map, ← mb_heads]
    exact h
  have := MRow.of_own h2 (nest_heads w base l)
  rwa [List.map_map] at this
theorem Nest.set {b i base : Nat} {u : Value} {w : World} {ps : List (Mb × Value)} (h : Nest w base ps) (hb : b < base) : Nest (w.setCell ⟨b, i, none⟩ u) base ps := fun p hp => own_set (h p hp) hb
/-- The file f in the call's own rows. -/
structure FOwnIs (w : World) (base : Nat) (a0 : Option Addr) (c0 : Nat) (a4 : Option Addr) (c4 : Nat) (a5 : Option Addr) (c5 : Nat) (a6 : Option Addr) (c6 : Nat) (f : Fl) : Prop where
  pool : w.ownsRow base 47 6 (.slice a0 f.pool.length c0) f.pool.length (f.pool.flatMap ccells)
  ifs : w.ownsRow base 3 1 (.slice a4 f.ifs.length c4) f.ifs.length (f.ifs.flatMap icell1)
  fds : ∃ l : List (Int × Int × Int), f.fds = l.map headM ∧ w.ownsRow base 38 7 (.slice a5 f.fds.length c5) l.length (l.flatMap hcell7)
  mts : ∃ ps : List (Mb × Value), f.mts = ps.map Prod.fst ∧ w.ownsRow base 38 7 (.slice a6 f.mts.length c6) ps.length (mbcells ps) ∧ Nest w base ps
theorem FOwnIs.fileIs {w : World} {base : Nat} {a0 a4 a5 a6 : Option Addr} {c0 c4 c5 c6 : Nat} {f : Fl} (h : FOwnIs w base a0 c0 a4 c4 a5 c5 a6 c6 f) : FileIs w.heap.size w a0 c0 a4 c4 a5 c5 a6 c6 f := by
  obtain ⟨h1, h2, ⟨l, h3, h4⟩, ps, h5, h6, h7⟩ := h
  refine ⟨Row.of_own h1 (own_len h1), ?_, ?_, ?_⟩
  · have := Row.of_own h2 (own_len h2)
    have e1 : f.ifs.flatMap icell1 = iccells f.ifs := by
      unfold iccells
      induction f.ifs with
      | nil => rfl
      | cons i is ih => rw [List.flatMap_cons, List.map_cons, ih]; rfl
    rwa [e1] at this
  · have := MRow.of_heads h4
    rwa [← h3] at this
  · have := MRow.of_own h6 h7
    rwa [← h5] at this
theorem FOwnIs.map {w w' : World} {base base' : Nat} {a0 a4 a5 a6 : Option Addr} {c0 c4 c5 c6 : Nat} {f : Fl} (h : FOwnIs w base a0 c0 a4 c4 a5 c5 a6 c6 f) (hm : ∀ {e : TypeId} {size n : Nat} {v : Value} {xs : List Value}, w.ownsRow base e size v n xs → w'.ownsRow base' e size v n xs) : FOwnIs w' base' a0 c0 a4 c4 a5 c5 a6 c6 f := by
  obtain ⟨h1, h2, ⟨l, h3, h4⟩, ps, h5, h6, h7⟩ := h
  exact ⟨hm h1, hm h2, ⟨l, h3, hm h4⟩, ps, h5, hm h6, fun p hp => hm (h7 p hp)⟩
theorem FOwnIs.set {b i base : Nat} {u : Value} {w : World} {a0 a4 a5 a6 : Option Addr} {c0 c4 c5 c6 : Nat} {f : Fl} (h : FOwnIs w base a0 c0 a4 c4 a5 c5 a6 c6 f) (hb : b < base) : FOwnIs (w.setCell ⟨b, i, none⟩ u) base a0 c0 a4 c4 a5 c5 a6 c6 f := h.map fun x => own_set x hb
theorem FOwnIs.alloc {base : Nat} {w : World} {a0 a4 a5 a6 : Option Addr} {c0 c4 c5 c6 : Nat} {f : Fl} (h : FOwnIs w base a0 c0 a4 c4 a5 c5 a6 c6 f) (o : Obj) : FOwnIs (w.alloc o) base a0 c0 a4 c4 a5 c5 a6 c6 f := h.map fun x => World.ownsRow.alloc x o
theorem FOwnIs.below {base : Nat} {w w' : World} {a0 a4 a5 a6 : Option Addr} {c0 c4 c5 c6 : Nat} {f : Fl} (h : FOwnIs w base a0 c0 a4 c4 a5 c5 a6 c6 f) (hb : Below w.heap.size w w') : FOwnIs w' base a0 c0 a4 c4 a5 c5 a6 c6 f := h.map fun x => own_below x hb
theorem FOwnIs.upd {q base : Nat} {w w' : World} {a0 a4 a5 a6 : Option Addr} {c0 c4 c5 c6 : Nat} {f : Fl} (h : FOwnIs w base a0 c0 a4 c4 a5 c5 a6 c6 f) (hu : Upd q w w') (hq : q < base) : FOwnIs w' base a0 c0 a4 c4 a5 c5 a6 c6 f := h.map fun x => own_upd x hu hq
/-- The value of a file. -/
def flV (a0 : Option Addr) (c0 : Nat) (a4 : Option Addr) (c4 : Nat) (a5 : Option Addr) (c5 : Nat) (a6 : Option Addr) (c6 : Nat) (f : Fl) : Value := .agg #[.slice a0 f.pool.length c0, .int .i64 f.fl, .int .i64 f.this, .int .i64 f.super, .slice a4 f.ifs.length c4, .slice a5 f.fds.length c5, .slice a6 f.mts.length c6]
theorem FOwnIs.fileAt {w : World} {base : Nat} {a0 a4 a5 a6 : Option Addr} {c0 c4 c5 c6 : Nat} {f : Fl} (h : FOwnIs w base a0 c0 a4 c4 a5 c5 a6 c6 f) : FileAt w.heap.size w (flV a0 c0 a4 c4 a5 c5 a6 c6 f) f := ⟨a0, c0, a4, c4, a5, c5, a6, c6, rfl, h.fileIs⟩
set_option maxRecDepth 1000000 in
set_option maxHeartbeats 6400000 in
theorem file_any (q : Nat) (s : ByteArray) (e : Int) (w : World) (h : RBox q s e w) :
    Calls Try.prog 34 #[.pointer (some ⟨q, 0, none⟩)] w fun en w' => ∃ a0 c0 a4 c4 a5 c5 a6 c6 s', en = .returned (flV a0 c0 a4 c4 a5 c5 a6 c6 (rdF (L s) e).1) ∧ FOwnIs w' w.heap.size a0 c0 a4 c4 a5 c5 a6 c6 (rdF (L s) e).1 ∧ L s' = (rdF (L s) e).2.1 ∧ RBox q s' (rdF (L s) e).2.2 w' ∧ Upd q w w' := by
  have hq := h.lt
  have hne0 : q ≠ w.heap.size := by omega
  have HC1 := Lib.hid (take_any q s e _ (h.alloc (.cells #[.slice none 0 0, .int .i64 0, .int .i64 0, .int .i64 0, .slice none 0 0, .slice none 0 0, .slice none 0 0] 26)) 4 (by omega))
  have U0 := Lib.hid ((Upd.refl q w).alloc (.cells #[.slice none 0 0, .int .i64 0, .int .i64 0, .int .i64 0, .slice none 0 0, .slice none 0 0, .slice none 0 0] 26))
  have BR0 := Lib.hid (heap_new w (.cells #[.slice none 0 0, .int .i64 0, .int .i64 0, .int .i64 0, .slice none 0 0, .slice none 0 0, .slice none 0 0] 26))
  clear h
  obtain ⟨⟨a1, x1, e1⟩, hA⟩ : ∃ T, tk 4 (L s) e = T := ⟨_, rfl⟩
  obtain ⟨E1, hE⟩ : ∃ E, (if a1 = [67, 82, 85, 88] then e1 else failE e1 4) = E := ⟨_, rfl⟩
  obtain ⟨⟨p, x2, e2⟩, hP⟩ : ∃ T, rdS rdC 2 x1 E1 = T := ⟨_, rfl⟩
  obtain ⟨⟨fl, x3, e3⟩, h3⟩ : ∃ T, rdN 1 x2 e2 = T := ⟨_, rfl⟩
  obtain ⟨⟨this, x4, e4⟩, h4⟩ : ∃ T, rdN 2 x3 e3 = T := ⟨_, rfl⟩
  obtain ⟨⟨super, x5, e5⟩, h5⟩ : ∃ T, rdN 2 x4 e4 = T := ⟨_, rfl⟩
  obtain ⟨⟨is, x6, e6⟩, h6⟩ : ∃ T, rdS (rdN 2) 1 x5 e5 = T := ⟨_, rfl⟩
  obtain ⟨⟨fd, x7, e7⟩, h7⟩ : ∃ T, rdS rdH 1 x6 e6 = T := ⟨_, rfl⟩
  obtain ⟨⟨mt, x8, e8⟩, h8⟩ : ∃ T, rdS rdD 1 x7 e7 = T := ⟨_, rfl⟩
  have HD := Lib.hid (show rdF (L s) e = (⟨p, fl, this, super, is, fd.map headM, mt⟩, x8, e8) by unfold rdF rdF4 rdF5; simp only [hA, hE, hP, h3, h4, h5, h6, h7, h8])
  generalize rdF (L s) e = D at *
  rw [hA] at HC1
  simp only at HC1
  have HP := Lib.hid hP
  have H3 := Lib.hid h3
  have H4 := Lib.hid h4
  have H5 := Lib.hid h5
  have H6 := Lib.hid h6
  have H7 := Lib.hid h7
  have H8 := Lib.hid h8
  have HEE := Lib.hid hE
  clear hA hP h3 h4 h5 h6 h7 h8 hE
  go_enter Try.func34, Try.ntmps34
  go_wp2_with fail
  refine (HC1.out).mono ?_
  rintro en w1 ⟨t1, sb1, rfl, ht1, hs1, hr, hu⟩
  have HT1 := Lib.hid ht1
  have HS1 := Lib.hid hs1
  have R1 := Lib.hid hr
  have U1 := Lib.hid (U0.out.trans hu)
  have BR1 := Lib.hid ((hu.block w.heap.size (lt_of_block BR0.out) (by omega)).trans BR0.out)
  clear ht1 hs1 hr hu
  by_cases hm : t1 = ⟨#[67, 82, 85, 88]⟩
  · subst hm
    have hE1 : E1 = e1 := by rw [← HEE.out, ← HT1.out]; rfl
    subst hE1
    have hlt0 : w.heap.size < w1.heap.size := lt_of_block BR1.out
    have hne1 : q ≠ w1.heap.size := by have := R1.out.lt; omega
    have RA := Lib.hid (R1.out.alloc (.cells #[.slice none 0 0, .int .i64 0, .int .i64 0, .int .i64 0, .slice none 0 0, .slice none 0 0, .slice none 0 0] 26))
    have UA := Lib.hid (U1.out.alloc (.cells #[.slice none 0 0, .int .i64 0, .int .i64 0, .int .i64 0, .slice none 0 0, .slice none 0 0, .slice none 0 0] 26))
    have BRA := Lib.hid (heap_alloc_lt (o := (.cells #[.slice none 0 0, .int .i64 0, .int .i64 0, .int .i64 0, .slice none 0 0, .slice none 0 0, .slice none 0 0] 26)) BR1.out)
    have BFA := Lib.hid (heap_new w1 (.cells #[.slice none 0 0, .int .i64 0, .int .i64 0, .int .i64 0, .slice none 0 0, .slice none 0 0, .slice none 0 0] 26))
    have hszf := U1.out.size
    have HCP := listConst_read q sb1 E1 _ RA.out
    rw [HS1.out, HP.out] at HCP
    simp only at HCP
    have HCP := Lib.hid HCP
    go_wp2_with fail
    refine (HCP.out).mono ?_
    clear HCP
    rintro en w2 ⟨vv, sb2, rfl, hown, hs, hr, hu⟩
    obtain ⟨a0, c0, rfl⟩ := own_form hown
    have BRx := (hu.block w.heap.size (lt_of_block BRA.out) (by omega)).trans BRA.out
    have BFx := (hu.block w1.heap.size (lt_of_block BFA.out) (by omega)).trans BFA.out
    have HS2 := Lib.hid hs
    have hf2 : w2.frozen? ⟨w1.heap.size, 0, none⟩ = false := free_of BFx 0
    have m0 := cells_of BFx 0
    have m1 := cells_of BFx 1
    have m2 := cells_of BFx 2
    have m3 := cells_of BFx 3
    have m4 := cells_of BFx 4
    have m5 := cells_of BFx 5
    have m6 := cells_of BFx 6
    have ltm := lt_of_block BFx
    have R2 := Lib.hid (hr.set_ne (i := 0) (u := .slice a0 p.length c0) hne1)
    have U2 := Lib.hid ((UA.out.trans hu).set_new (b := w1.heap.size) (i := 0) (u := .slice a0 p.length c0) (by omega))
    have BR2 := Lib.hid (show (w2.setCell ⟨w1.heap.size, 0, none⟩ (.slice a0 p.length c0)).heap[w.heap.size]? = some (.cells #[.slice none 0 0, .int .i64 0, .int .i64 0, .int .i64 0, .slice none 0 0, .slice none 0 0, .slice none 0 0] 26 (0, 0)) from heap_setCell_ne (by show w.heap.size ≠ w1.heap.size; omega) BRx)
    have BF2 := Lib.hid (show (w2.setCell ⟨w1.heap.size, 0, none⟩ (.slice a0 p.length c0)).heap[w1.heap.size]? = some (.cells #[.slice a0 p.length c0, .int .i64 0, .int .i64 0, .int .i64 0, .slice none 0 0, .slice none 0 0, .slice none 0 0] 26 (0, 0)) from heap_set_eq2 BFx)
    have hbs0 : w1.heap.size < (w1.alloc (.cells #[.slice none 0 0, .int .i64 0, .int .i64 0, .int .i64 0, .slice none 0 0, .slice none 0 0, .slice none 0 0] 26)).heap.size := lt_of_block BFA.out
    have ownC2 := Lib.hid (own_less (own_set (i := 0) (u := .slice a0 p.length c0) hown hbs0) (base' := w1.heap.size + 1) (by omega))
    clear hown
    clear hs hr hu BRx BFx
    have HC3 := num_any q sb2 e2 _ R2.out 1 (by omega)
    rw [HS2.out, H3.out] at HC3
    simp only at HC3
    have HC3 := Lib.hid HC3
    go_wp2_with fail
    refine (HC3.out).mono ?_
    clear HC3
    rintro en w3 ⟨sb3, rfl, hs, hr, hu⟩
    have BRx := (hu.block w.heap.size (lt_of_block BR2.out) (by omega)).trans BR2.out
    have BFx := (hu.block w1.heap.size (lt_of_block BF2.out) (by omega)).trans BF2.out
    have HS3 := Lib.hid hs
    have hf3 : w3.frozen? ⟨w1.heap.size, 1, none⟩ = false := free_of BFx 1
    clear m0 m1 m2 m3 m4 m5 m6 ltm
    have m0 := cells_of BFx 0
    have m1 := cells_of BFx 1
    have m2 := cells_of BFx 2
    have m3 := cells_of BFx 3
    have m4 := cells_of BFx 4
    have m5 := cells_of BFx 5
    have m6 := cells_of BFx 6
    have ltm := lt_of_block BFx
    have R3 := Lib.hid (hr.set_ne (i := 1) (u := .int .i64 fl) hne1)
    have U3 := Lib.hid ((U2.out.trans hu).set_new (b := w1.heap.size) (i := 1) (u := .int .i64 fl) (by omega))
    have BR3 := Lib.hid (show (w3.setCell ⟨w1.heap.size, 1, none⟩ (.int .i64 fl)).heap[w.heap.size]? = some (.cells #[.slice none 0 0, .int .i64 0, .int .i64 0, .int .i64 0, .slice none 0 0, .slice none 0 0, .slice none 0 0] 26 (0, 0)) from heap_setCell_ne (by show w.heap.size ≠ w1.heap.size; omega) BRx)
    have BF3 := Lib.hid (show (w3.setCell ⟨w1.heap.size, 1, none⟩ (.int .i64 fl)).heap[w1.heap.size]? = some (.cells #[.slice a0 p.length c0, .int .i64 fl, .int .i64 0, .int .i64 0, .slice none 0 0, .slice none 0 0, .slice none 0 0] 26 (0, 0)) from heap_set_eq2 BFx)
    have ownC3 := Lib.hid (own_set (b := w1.heap.size) (i := 1) (u := .int .i64 fl) (own_upd ownC2.out hu (by omega)) (by omega))
    clear hs hr hu BRx BFx
    have HC4 := link_any q sb3 e3 _ R3.out
    rw [HS3.out, H4.out] at HC4
    simp only at HC4
    have HC4 := Lib.hid HC4
    go_wp2_with fail
    refine (HC4.out).mono ?_
    clear HC4
    rintro en w4 ⟨sb4, rfl, hs, hr, hu⟩
    have BRx := (hu.block w.heap.size (lt_of_block BR3.out) (by omega)).trans BR3.out
    have BFx := (hu.block w1.heap.size (lt_of_block BF3.out) (by omega)).trans BF3.out
    have HS4 := Lib.hid hs
    have hf4 : w4.frozen? ⟨w1.heap.size, 2, none⟩ = false := free_of BFx 2
    clear m0 m1 m2 m3 m4 m5 m6 ltm
    have m0 := cells_of BFx 0
    have m1 := cells_of BFx 1
    have m2 := cells_of BFx 2
    have m3 := cells_of BFx 3
    have m4 := cells_of BFx 4
    have m5 := cells_of BFx 5
    have m6 := cells_of BFx 6
    have ltm := lt_of_block BFx
    have R4 := Lib.hid (hr.set_ne (i := 2) (u := .int .i64 this) hne1)
    have U4 := Lib.hid ((U3.out.trans hu).set_new (b := w1.heap.size) (i := 2) (u := .int .i64 this) (by omega))
    have BR4 := Lib.hid (show (w4.setCell ⟨w1.heap.size, 2, none⟩ (.int .i64 this)).heap[w.heap.size]? = some (.cells #[.slice none 0 0, .int .i64 0, .int .i64 0, .int .i64 0, .slice none 0 0, .slice none 0 0, .slice none 0 0] 26 (0, 0)) from heap_setCell_ne (by show w.heap.size ≠ w1.heap.size; omega) BRx)
    have BF4 := Lib.hid (show (w4.setCell ⟨w1.heap.size, 2, none⟩ (.int .i64 this)).heap[w1.heap.size]? = some (.cells #[.slice a0 p.length c0, .int .i64 fl, .int .i64 this, .int .i64 0, .slice none 0 0, .slice none 0 0, .slice none 0 0] 26 (0, 0)) from heap_set_eq2 BFx)
    have ownC4 := Lib.hid (own_set (b := w1.heap.size) (i := 2) (u := .int .i64 this) (own_upd ownC3.out hu (by omega)) (by omega))
    clear hs hr hu BRx BFx
    have HC5 := link_any q sb4 e4 _ R4.out
    rw [HS4.out, H5.out] at HC5
    simp only at HC5
    have HC5 := Lib.hid HC5
    go_wp2_with fail
    refine (HC5.out).mono ?_
    clear HC5
    rintro en w5 ⟨sb5, rfl, hs, hr, hu⟩
    have BRx := (hu.block w.heap.size (lt_of_block BR4.out) (by omega)).trans BR4.out
    have BFx := (hu.block w1.heap.size (lt_of_block BF4.out) (by omega)).trans BF4.out
    have HS5 := Lib.hid hs
    have hf5 : w5.frozen? ⟨w1.heap.size, 3, none⟩ = false := free_of BFx 3
    clear m0 m1 m2 m3 m4 m5 m6 ltm
    have m0 := cells_of BFx 0
    have m1 := cells_of BFx 1
    have m2 := cells_of BFx 2
    have m3 := cells_of BFx 3
    have m4 := cells_of BFx 4
    have m5 := cells_of BFx 5
    have m6 := cells_of BFx 6
    have ltm := lt_of_block BFx
    have R5 := Lib.hid (hr.set_ne (i := 3) (u := .int .i64 super) hne1)
    have U5 := Lib.hid ((U4.out.trans hu).set_new (b := w1.heap.size) (i := 3) (u := .int .i64 super) (by omega))
    have BR5 := Lib.hid (show (w5.setCell ⟨w1.heap.size, 3, none⟩ (.int .i64 super)).heap[w.heap.size]? = some (.cells #[.slice none 0 0, .int .i64 0, .int .i64 0, .int .i64 0, .slice none 0 0, .slice none 0 0, .slice none 0 0] 26 (0, 0)) from heap_setCell_ne (by show w.heap.size ≠ w1.heap.size; omega) BRx)
    have BF5 := Lib.hid (show (w5.setCell ⟨w1.heap.size, 3, none⟩ (.int .i64 super)).heap[w1.heap.size]? = some (.cells #[.slice a0 p.length c0, .int .i64 fl, .int .i64 this, .int .i64 super, .slice none 0 0, .slice none 0 0, .slice none 0 0] 26 (0, 0)) from heap_set_eq2 BFx)
    have ownC5 := Lib.hid (own_set (b := w1.heap.size) (i := 3) (u := .int .i64 super) (own_upd ownC4.out hu (by omega)) (by omega))
    clear hs hr hu BRx BFx
    have HC6 := listLink_read q sb5 e5 _ R5.out
    rw [HS5.out, H6.out] at HC6
    simp only at HC6
    have HC6 := Lib.hid HC6
    go_wp2_with fail
    refine (HC6.out).mono ?_
    clear HC6
    rintro en w6 ⟨vv, sb6, rfl, hown, hs, hr, hu⟩
    obtain ⟨a4, c4, rfl⟩ := own_form hown
    have BRx := (hu.block w.heap.size (lt_of_block BR5.out) (by omega)).trans BR5.out
    have BFx := (hu.block w1.heap.size (lt_of_block BF5.out) (by omega)).trans BF5.out
    have HS6 := Lib.hid hs
    have hf6 : w6.frozen? ⟨w1.heap.size, 4, none⟩ = false := free_of BFx 4
    clear m0 m1 m2 m3 m4 m5 m6 ltm
    have m0 := cells_of BFx 0
    have m1 := cells_of BFx 1
    have m2 := cells_of BFx 2
    have m3 := cells_of BFx 3
    have m4 := cells_of BFx 4
    have m5 := cells_of BFx 5
    have m6 := cells_of BFx 6
    have ltm := lt_of_block BFx
    have R6 := Lib.hid (hr.set_ne (i := 4) (u := .slice a4 is.length c4) hne1)
    have U6 := Lib.hid ((U5.out.trans hu).set_new (b := w1.heap.size) (i := 4) (u := .slice a4 is.length c4) (by omega))
    have BR6 := Lib.hid (show (w6.setCell ⟨w1.heap.size, 4, none⟩ (.slice a4 is.length c4)).heap[w.heap.size]? = some (.cells #[.slice none 0 0, .int .i64 0, .int .i64 0, .int .i64 0, .slice none 0 0, .slice none 0 0, .slice none 0 0] 26 (0, 0)) from heap_setCell_ne (by show w.heap.size ≠ w1.heap.size; omega) BRx)
    have BF6 := Lib.hid (show (w6.setCell ⟨w1.heap.size, 4, none⟩ (.slice a4 is.length c4)).heap[w1.heap.size]? = some (.cells #[.slice a0 p.length c0, .int .i64 fl, .int .i64 this, .int .i64 super, .slice a4 is.length c4, .slice none 0 0, .slice none 0 0] 26 (0, 0)) from heap_set_eq2 BFx)
    have ownC6 := Lib.hid (own_set (b := w1.heap.size) (i := 4) (u := .slice a4 is.length c4) (own_upd ownC5.out hu (by omega)) (by omega))
    have hbs4 : w1.heap.size < (w5.setCell ⟨w1.heap.size, 3, none⟩ (.int .i64 super)).heap.size := lt_of_block BF5.out
    have ownI6 := Lib.hid (own_less (own_set (i := 4) (u := .slice a4 is.length c4) hown hbs4) (base' := w1.heap.size + 1) (by omega))
    clear hown
    clear hs hr hu BRx BFx
    have HC7 := listHead_read q sb6 e6 _ R6.out
    rw [HS6.out, H7.out] at HC7
    simp only at HC7
    have HC7 := Lib.hid HC7
    go_wp2_with fail
    refine (HC7.out).mono ?_
    clear HC7
    rintro en w7 ⟨vv, sb7, rfl, hown, hs, hr, hu⟩
    obtain ⟨a5, c5, rfl⟩ := own_form hown
    have BRx := (hu.block w.heap.size (lt_of_block BR6.out) (by omega)).trans BR6.out
    have BFx := (hu.block w1.heap.size (lt_of_block BF6.out) (by omega)).trans BF6.out
    have HS7 := Lib.hid hs
    have hf7 : w7.frozen? ⟨w1.heap.size, 5, none⟩ = false := free_of BFx 5
    clear m0 m1 m2 m3 m4 m5 m6 ltm
    have m0 := cells_of BFx 0
    have m1 := cells_of BFx 1
    have m2 := cells_of BFx 2
    have m3 := cells_of BFx 3
    have m4 := cells_of BFx 4
    have m5 := cells_of BFx 5
    have m6 := cells_of BFx 6
    have ltm := lt_of_block BFx
    have R7 := Lib.hid (hr.set_ne (i := 5) (u := .slice a5 fd.length c5) hne1)
    have U7 := Lib.hid ((U6.out.trans hu).set_new (b := w1.heap.size) (i := 5) (u := .slice a5 fd.length c5) (by omega))
    have BR7 := Lib.hid (show (w7.setCell ⟨w1.heap.size, 5, none⟩ (.slice a5 fd.length c5)).heap[w.heap.size]? = some (.cells #[.slice none 0 0, .int .i64 0, .int .i64 0, .int .i64 0, .slice none 0 0, .slice none 0 0, .slice none 0 0] 26 (0, 0)) from heap_setCell_ne (by show w.heap.size ≠ w1.heap.size; omega) BRx)
    have BF7 := Lib.hid (show (w7.setCell ⟨w1.heap.size, 5, none⟩ (.slice a5 fd.length c5)).heap[w1.heap.size]? = some (.cells #[.slice a0 p.length c0, .int .i64 fl, .int .i64 this, .int .i64 super, .slice a4 is.length c4, .slice a5 fd.length c5, .slice none 0 0] 26 (0, 0)) from heap_set_eq2 BFx)
    have ownC7 := Lib.hid (own_set (b := w1.heap.size) (i := 5) (u := .slice a5 fd.length c5) (own_upd ownC6.out hu (by omega)) (by omega))
    have ownI7 := Lib.hid (own_set (b := w1.heap.size) (i := 5) (u := .slice a5 fd.length c5) (own_upd ownI6.out hu (by omega)) (by omega))
    have hbs5 : w1.heap.size < (w6.setCell ⟨w1.heap.size, 4, none⟩ (.slice a4 is.length c4)).heap.size := lt_of_block BF6.out
    have ownH7 := Lib.hid (own_less (own_set (i := 5) (u := .slice a5 fd.length c5) hown hbs5) (base' := w1.heap.size + 1) (by omega))
    clear hown
    clear hs hr hu BRx BFx
    have HC8 := listMeth_read q sb7 e7 _ R7.out
    rw [HS7.out, H8.out] at HC8
    simp only at HC8
    have HC8 := Lib.hid HC8
    go_wp2_with fail
    refine (HC8.out).mono ?_
    clear HC8
    rintro en w8 ⟨vv, sb8, ps, rfl, hps, hown, hnest, hs, hr, hu⟩
    obtain ⟨a6, c6, rfl⟩ := own_form hown
    have BRx := (hu.block w.heap.size (lt_of_block BR7.out) (by omega)).trans BR7.out
    have BFx := (hu.block w1.heap.size (lt_of_block BF7.out) (by omega)).trans BF7.out
    have HS8 := Lib.hid hs
    have hf8 : w8.frozen? ⟨w1.heap.size, 6, none⟩ = false := free_of BFx 6
    clear m0 m1 m2 m3 m4 m5 m6 ltm
    have m0 := cells_of BFx 0
    have m1 := cells_of BFx 1
    have m2 := cells_of BFx 2
    have m3 := cells_of BFx 3
    have m4 := cells_of BFx 4
    have m5 := cells_of BFx 5
    have m6 := cells_of BFx 6
    have ltm := lt_of_block BFx
    have r0 := cells_of BRx 0
    have fr0 : w8.frozen? ⟨w.heap.size, 0, none⟩ = false := free_of BRx 0
    have r1 := cells_of BRx 1
    have fr1 : w8.frozen? ⟨w.heap.size, 1, none⟩ = false := free_of BRx 1
    have r2 := cells_of BRx 2
    have fr2 : w8.frozen? ⟨w.heap.size, 2, none⟩ = false := free_of BRx 2
    have r3 := cells_of BRx 3
    have fr3 : w8.frozen? ⟨w.heap.size, 3, none⟩ = false := free_of BRx 3
    have r4 := cells_of BRx 4
    have fr4 : w8.frozen? ⟨w.heap.size, 4, none⟩ = false := free_of BRx 4
    have r5 := cells_of BRx 5
    have fr5 : w8.frozen? ⟨w.heap.size, 5, none⟩ = false := free_of BRx 5
    have r6 := cells_of BRx 6
    have fr6 : w8.frozen? ⟨w.heap.size, 6, none⟩ = false := free_of BRx 6
    have ltr := lt_of_block BRx
    have R8 := Lib.hid (hr.set_ne (i := 6) (u := .slice a6 ps.length c6) hne1)
    have U8 := Lib.hid ((U7.out.trans hu).set_new (b := w1.heap.size) (i := 6) (u := .slice a6 ps.length c6) (by omega))
    have BR8 := Lib.hid (show (w8.setCell ⟨w1.heap.size, 6, none⟩ (.slice a6 ps.length c6)).heap[w.heap.size]? = some (.cells #[.slice none 0 0, .int .i64 0, .int .i64 0, .int .i64 0, .slice none 0 0, .slice none 0 0, .slice none 0 0] 26 (0, 0)) from heap_setCell_ne (by show w.heap.size ≠ w1.heap.size; omega) BRx)
    have BF8 := Lib.hid (show (w8.setCell ⟨w1.heap.size, 6, none⟩ (.slice a6 ps.length c6)).heap[w1.heap.size]? = some (.cells #[.slice a0 p.length c0, .int .i64 fl, .int .i64 this, .int .i64 super, .slice a4 is.length c4, .slice a5 fd.length c5, .slice a6 ps.length c6] 26 (0, 0)) from heap_set_eq2 BFx)
    have ownC8 := Lib.hid (own_set (b := w1.heap.size) (i := 6) (u := .slice a6 ps.length c6) (own_upd ownC7.out hu (by omega)) (by omega))
    have ownI8 := Lib.hid (own_set (b := w1.heap.size) (i := 6) (u := .slice a6 ps.length c6) (own_upd ownI7.out hu (by omega)) (by omega))
    have ownH8 := Lib.hid (own_set (b := w1.heap.size) (i := 6) (u := .slice a6 ps.length c6) (own_upd ownH7.out hu (by omega)) (by omega))
    have hbs6 : w1.heap.size < (w7.setCell ⟨w1.heap.size, 5, none⟩ (.slice a5 fd.length c5)).heap.size := lt_of_block BF7.out
    have ownM8 := Lib.hid (own_less (own_set (i := 6) (u := .slice a6 ps.length c6) hown hbs6) (base' := w1.heap.size + 1) (by omega))
    have NM8 := Lib.hid (hnest.set (i := 6) (u := .slice a6 ps.length c6) hbs6)
    have HPS := Lib.hid hps
    clear hps hnest
    clear hown
    clear hs hr hu BRx BFx
    have RF := Lib.hid (((((((R8.out.set_ne (b := w.heap.size) (i := 0) (u := .slice a0 p.length c0) hne0).set_ne (b := w.heap.size) (i := 1) (u := .int .i64 fl) hne0).set_ne (b := w.heap.size) (i := 2) (u := .int .i64 this) hne0).set_ne (b := w.heap.size) (i := 3) (u := .int .i64 super) hne0).set_ne (b := w.heap.size) (i := 4) (u := .slice a4 is.length c4) hne0).set_ne (b := w.heap.size) (i := 5) (u := .slice a5 fd.length c5) hne0).set_ne (b := w.heap.size) (i := 6) (u := .slice a6 ps.length c6) hne0)
    have UF := Lib.hid (((((((U8.out.set_new (b := w.heap.size) (i := 0) (u := .slice a0 p.length c0) (Nat.le_refl _)).set_new (b := w.heap.size) (i := 1) (u := .int .i64 fl) (Nat.le_refl _)).set_new (b := w.heap.size) (i := 2) (u := .int .i64 this) (Nat.le_refl _)).set_new (b := w.heap.size) (i := 3) (u := .int .i64 super) (Nat.le_refl _)).set_new (b := w.heap.size) (i := 4) (u := .slice a4 is.length c4) (Nat.le_refl _)).set_new (b := w.heap.size) (i := 5) (u := .slice a5 fd.length c5) (Nat.le_refl _)).set_new (b := w.heap.size) (i := 6) (u := .slice a6 ps.length c6) (Nat.le_refl _))
    have BF := Lib.hid (heap_set_eq2 (i := 6) (u := .slice a6 ps.length c6) (heap_set_eq2 (i := 5) (u := .slice a5 fd.length c5) (heap_set_eq2 (i := 4) (u := .slice a4 is.length c4) (heap_set_eq2 (i := 3) (u := .int .i64 super) (heap_set_eq2 (i := 2) (u := .int .i64 this) (heap_set_eq2 (i := 1) (u := .int .i64 fl) (heap_set_eq2 (i := 0) (u := .slice a0 p.length c0) BR8.out)))))))
    have ownCF := Lib.hid (own_set (b := w.heap.size) (i := 6) (u := .slice a6 ps.length c6) (own_set (b := w.heap.size) (i := 5) (u := .slice a5 fd.length c5) (own_set (b := w.heap.size) (i := 4) (u := .slice a4 is.length c4) (own_set (b := w.heap.size) (i := 3) (u := .int .i64 super) (own_set (b := w.heap.size) (i := 2) (u := .int .i64 this) (own_set (b := w.heap.size) (i := 1) (u := .int .i64 fl) (own_set (b := w.heap.size) (i := 0) (u := .slice a0 p.length c0) ownC8.out (by omega)) (by omega)) (by omega)) (by omega)) (by omega)) (by omega)) (by omega))
    have ownIF := Lib.hid (own_set (b := w.heap.size) (i := 6) (u := .slice a6 ps.length c6) (own_set (b := w.heap.size) (i := 5) (u := .slice a5 fd.length c5) (own_set (b := w.heap.size) (i := 4) (u := .slice a4 is.length c4) (own_set (b := w.heap.size) (i := 3) (u := .int .i64 super) (own_set (b := w.heap.size) (i := 2) (u := .int .i64 this) (own_set (b := w.heap.size) (i := 1) (u := .int .i64 fl) (own_set (b := w.heap.size) (i := 0) (u := .slice a0 p.length c0) ownI8.out (by omega)) (by omega)) (by omega)) (by omega)) (by omega)) (by omega)) (by omega))
    have ownHF := Lib.hid (own_set (b := w.heap.size) (i := 6) (u := .slice a6 ps.length c6) (own_set (b := w.heap.size) (i := 5) (u := .slice a5 fd.length c5) (own_set (b := w.heap.size) (i := 4) (u := .slice a4 is.length c4) (own_set (b := w.heap.size) (i := 3) (u := .int .i64 super) (own_set (b := w.heap.size) (i := 2) (u := .int .i64 this) (own_set (b := w.heap.size) (i := 1) (u := .int .i64 fl) (own_set (b := w.heap.size) (i := 0) (u := .slice a0 p.length c0) ownH8.out (by omega)) (by omega)) (by omega)) (by omega)) (by omega)) (by omega)) (by omega))
    have ownMF := Lib.hid (own_set (b := w.heap.size) (i := 6) (u := .slice a6 ps.length c6) (own_set (b := w.heap.size) (i := 5) (u := .slice a5 fd.length c5) (own_set (b := w.heap.size) (i := 4) (u := .slice a4 is.length c4) (own_set (b := w.heap.size) (i := 3) (u := .int .i64 super) (own_set (b := w.heap.size) (i := 2) (u := .int .i64 this) (own_set (b := w.heap.size) (i := 1) (u := .int .i64 fl) (own_set (b := w.heap.size) (i := 0) (u := .slice a0 p.length c0) ownM8.out (by omega)) (by omega)) (by omega)) (by omega)) (by omega)) (by omega)) (by omega))
    have NF := Lib.hid (Nest.set (b := w.heap.size) (i := 6) (u := .slice a6 ps.length c6) (Nest.set (b := w.heap.size) (i := 5) (u := .slice a5 fd.length c5) (Nest.set (b := w.heap.size) (i := 4) (u := .slice a4 is.length c4) (Nest.set (b := w.heap.size) (i := 3) (u := .int .i64 super) (Nest.set (b := w.heap.size) (i := 2) (u := .int .i64 this) (Nest.set (b := w.heap.size) (i := 1) (u := .int .i64 fl) (Nest.set (b := w.heap.size) (i := 0) (u := .slice a0 p.length c0) NM8.out (by omega)) (by omega)) (by omega)) (by omega)) (by omega)) (by omega)) (by omega))
    go_wp2
    obtain ⟨W, hW⟩ : ∃ W, W = ((((((((w8.setCell ⟨w1.heap.size, 6, none⟩ (.slice a6 ps.length c6)).setCell ⟨w.heap.size, 0, none⟩ (.slice a0 p.length c0)).setCell ⟨w.heap.size, 1, none⟩ (.int .i64 fl)).setCell ⟨w.heap.size, 2, none⟩ (.int .i64 this)).setCell ⟨w.heap.size, 3, none⟩ (.int .i64 super)).setCell ⟨w.heap.size, 4, none⟩ (.slice a4 is.length c4)).setCell ⟨w.heap.size, 5, none⟩ (.slice a5 fd.length c5)).setCell ⟨w.heap.size, 6, none⟩ (.slice a6 ps.length c6)) := ⟨_, rfl⟩
    rw [← hW] at RF UF BF ownCF ownIF ownHF ownMF NF
    rw [← hW]
    clear hW
    have BV := BF.out
    have t0 := cells_of BV 0
    have t1 := cells_of BV 1
    have t2 := cells_of BV 2
    have t3 := cells_of BV 3
    have t4 := cells_of BV 4
    have t5 := cells_of BV 5
    have t6 := cells_of BV 6
    have hpsl : ps.length = mt.length := by rw [HPS.out, List.length_map]
    refine bodyPost_ret (v := flV a0 c0 a4 c4 a5 c5 a6 c6 ⟨p, fl, this, super, is, fd.map headM, mt⟩) (by simp [results, Try.results34, go_sem, flV, t0, t1, t2, t3, t4, t5, t6, hpsl]) rfl ⟨a0, c0, a4, c4, a5, c5, a6, c6, sb8, by rw [HD.out], ?_, ?_, ?_, UF.out⟩
    · rw [HD.out]
      refine ⟨own_less ownCF.out (by omega), own_less ownIF.out (by omega), ⟨fd, rfl, ?_⟩, ps, HPS.out, ?_, fun x hx => own_less (NF.out x hx) (by omega)⟩
      · simp only [List.length_map]
        exact own_less ownHF.out (by omega)
      · simp only
        rw [← hpsl]
        exact own_less ownMF.out (by omega)
    · rw [HD.out]
      exact HS8.out
    · rw [HD.out]
      exact RF.out
  · have hne : (t1.toList == [67, 82, 85, 88]) = false := by
      have := str_beq t1 ⟨#[67, 82, 85, 88]⟩
      rw [decide_eq_false hm, show (⟨#[67, 82, 85, 88]⟩ : ByteArray).toList = [67, 82, 85, 88] from toList_data _] at this
      exact this
    have hE1 : E1 = failE e1 4 := by
      rw [← HEE.out, if_neg]
      intro h
      refine hm ?_
      rw [← mkB_L t1, HT1.out, h]
      rfl
    have HC2 := Lib.hid (fail_any q sb1 e1 4 w1 R1.out)
    rw [← hE1] at HC2
    go_wp2_with fail
    refine (HC2.out).mono ?_
    rintro en w2 ⟨rfl, hr, hu⟩
    have R2 := Lib.hid hr
    have U2 := Lib.hid (U1.out.trans hu)
    have BR2 := Lib.hid ((hu.block w.heap.size (lt_of_block BR1.out) (by omega)).trans BR1.out)
    have HS2 := HS1
    clear hr hu HC2
    have hlt0 : w.heap.size < w2.heap.size := lt_of_block BR2.out
    have hne1 : q ≠ w2.heap.size := by have := R2.out.lt; omega
    have RA := Lib.hid (R2.out.alloc (.cells #[.slice none 0 0, .int .i64 0, .int .i64 0, .int .i64 0, .slice none 0 0, .slice none 0 0, .slice none 0 0] 26))
    have UA := Lib.hid (U2.out.alloc (.cells #[.slice none 0 0, .int .i64 0, .int .i64 0, .int .i64 0, .slice none 0 0, .slice none 0 0, .slice none 0 0] 26))
    have BRA := Lib.hid (heap_alloc_lt (o := (.cells #[.slice none 0 0, .int .i64 0, .int .i64 0, .int .i64 0, .slice none 0 0, .slice none 0 0, .slice none 0 0] 26)) BR2.out)
    have BFA := Lib.hid (heap_new w2 (.cells #[.slice none 0 0, .int .i64 0, .int .i64 0, .int .i64 0, .slice none 0 0, .slice none 0 0, .slice none 0 0] 26))
    have hszf := U2.out.size
    have HCP := listConst_read q sb1 E1 _ RA.out
    rw [HS2.out, HP.out] at HCP
    simp only at HCP
    have HCP := Lib.hid HCP
    go_wp2_with fail
    refine (HCP.out).mono ?_
    clear HCP
    rintro en w3 ⟨vv, sb3, rfl, hown, hs, hr, hu⟩
    obtain ⟨a0, c0, rfl⟩ := own_form hown
    have BRx := (hu.block w.heap.size (lt_of_block BRA.out) (by omega)).trans BRA.out
    have BFx := (hu.block w2.heap.size (lt_of_block BFA.out) (by omega)).trans BFA.out
    have HS3 := Lib.hid hs
    have hf3 : w3.frozen? ⟨w2.heap.size, 0, none⟩ = false := free_of BFx 0
    have m0 := cells_of BFx 0
    have m1 := cells_of BFx 1
    have m2 := cells_of BFx 2
    have m3 := cells_of BFx 3
    have m4 := cells_of BFx 4
    have m5 := cells_of BFx 5
    have m6 := cells_of BFx 6
    have ltm := lt_of_block BFx
    have R3 := Lib.hid (hr.set_ne (i := 0) (u := .slice a0 p.length c0) hne1)
    have U3 := Lib.hid ((UA.out.trans hu).set_new (b := w2.heap.size) (i := 0) (u := .slice a0 p.length c0) (by omega))
    have BR3 := Lib.hid (show (w3.setCell ⟨w2.heap.size, 0, none⟩ (.slice a0 p.length c0)).heap[w.heap.size]? = some (.cells #[.slice none 0 0, .int .i64 0, .int .i64 0, .int .i64 0, .slice none 0 0, .slice none 0 0, .slice none 0 0] 26 (0, 0)) from heap_setCell_ne (by show w.heap.size ≠ w2.heap.size; omega) BRx)
    have BF3 := Lib.hid (show (w3.setCell ⟨w2.heap.size, 0, none⟩ (.slice a0 p.length c0)).heap[w2.heap.size]? = some (.cells #[.slice a0 p.length c0, .int .i64 0, .int .i64 0, .int .i64 0, .slice none 0 0, .slice none 0 0, .slice none 0 0] 26 (0, 0)) from heap_set_eq2 BFx)
    have hbs0 : w2.heap.size < (w2.alloc (.cells #[.slice none 0 0, .int .i64 0, .int .i64 0, .int .i64 0, .slice none 0 0, .slice none 0 0, .slice none 0 0] 26)).heap.size := lt_of_block BFA.out
    have ownC3 := Lib.hid (own_less (own_set (i := 0) (u := .slice a0 p.length c0) hown hbs0) (base' := w2.heap.size + 1) (by omega))
    clear hown
    clear hs hr hu BRx BFx
    have HC3 := num_any q sb3 e2 _ R3.out 1 (by omega)
    rw [HS3.out, H3.out] at HC3
    simp only at HC3
    have HC3 := Lib.hid HC3
    go_wp2_with fail
    refine (HC3.out).mono ?_
    clear HC3
    rintro en w4 ⟨sb4, rfl, hs, hr, hu⟩
    have BRx := (hu.block w.heap.size (lt_of_block BR3.out) (by omega)).trans BR3.out
    have BFx := (hu.block w2.heap.size (lt_of_block BF3.out) (by omega)).trans BF3.out
    have HS4 := Lib.hid hs
    have hf4 : w4.frozen? ⟨w2.heap.size, 1, none⟩ = false := free_of BFx 1
    clear m0 m1 m2 m3 m4 m5 m6 ltm
    have m0 := cells_of BFx 0
    have m1 := cells_of BFx 1
    have m2 := cells_of BFx 2
    have m3 := cells_of BFx 3
    have m4 := cells_of BFx 4
    have m5 := cells_of BFx 5
    have m6 := cells_of BFx 6
    have ltm := lt_of_block BFx
    have R4 := Lib.hid (hr.set_ne (i := 1) (u := .int .i64 fl) hne1)
    have U4 := Lib.hid ((U3.out.trans hu).set_new (b := w2.heap.size) (i := 1) (u := .int .i64 fl) (by omega))
    have BR4 := Lib.hid (show (w4.setCell ⟨w2.heap.size, 1, none⟩ (.int .i64 fl)).heap[w.heap.size]? = some (.cells #[.slice none 0 0, .int .i64 0, .int .i64 0, .int .i64 0, .slice none 0 0, .slice none 0 0, .slice none 0 0] 26 (0, 0)) from heap_setCell_ne (by show w.heap.size ≠ w2.heap.size; omega) BRx)
    have BF4 := Lib.hid (show (w4.setCell ⟨w2.heap.size, 1, none⟩ (.int .i64 fl)).heap[w2.heap.size]? = some (.cells #[.slice a0 p.length c0, .int .i64 fl, .int .i64 0, .int .i64 0, .slice none 0 0, .slice none 0 0, .slice none 0 0] 26 (0, 0)) from heap_set_eq2 BFx)
    have ownC4 := Lib.hid (own_set (b := w2.heap.size) (i := 1) (u := .int .i64 fl) (own_upd ownC3.out hu (by omega)) (by omega))
    clear hs hr hu BRx BFx
    have HC4 := link_any q sb4 e3 _ R4.out
    rw [HS4.out, H4.out] at HC4
    simp only at HC4
    have HC4 := Lib.hid HC4
    go_wp2_with fail
    refine (HC4.out).mono ?_
    clear HC4
    rintro en w5 ⟨sb5, rfl, hs, hr, hu⟩
    have BRx := (hu.block w.heap.size (lt_of_block BR4.out) (by omega)).trans BR4.out
    have BFx := (hu.block w2.heap.size (lt_of_block BF4.out) (by omega)).trans BF4.out
    have HS5 := Lib.hid hs
    have hf5 : w5.frozen? ⟨w2.heap.size, 2, none⟩ = false := free_of BFx 2
    clear m0 m1 m2 m3 m4 m5 m6 ltm
    have m0 := cells_of BFx 0
    have m1 := cells_of BFx 1
    have m2 := cells_of BFx 2
    have m3 := cells_of BFx 3
    have m4 := cells_of BFx 4
    have m5 := cells_of BFx 5
    have m6 := cells_of BFx 6
    have ltm := lt_of_block BFx
    have R5 := Lib.hid (hr.set_ne (i := 2) (u := .int .i64 this) hne1)
    have U5 := Lib.hid ((U4.out.trans hu).set_new (b := w2.heap.size) (i := 2) (u := .int .i64 this) (by omega))
    have BR5 := Lib.hid (show (w5.setCell ⟨w2.heap.size, 2, none⟩ (.int .i64 this)).heap[w.heap.size]? = some (.cells #[.slice none 0 0, .int .i64 0, .int .i64 0, .int .i64 0, .slice none 0 0, .slice none 0 0, .slice none 0 0] 26 (0, 0)) from heap_setCell_ne (by show w.heap.size ≠ w2.heap.size; omega) BRx)
    have BF5 := Lib.hid (show (w5.setCell ⟨w2.heap.size, 2, none⟩ (.int .i64 this)).heap[w2.heap.size]? = some (.cells #[.slice a0 p.length c0, .int .i64 fl, .int .i64 this, .int .i64 0, .slice none 0 0, .slice none 0 0, .slice none 0 0] 26 (0, 0)) from heap_set_eq2 BFx)
    have ownC5 := Lib.hid (own_set (b := w2.heap.size) (i := 2) (u := .int .i64 this) (own_upd ownC4.out hu (by omega)) (by omega))
    clear hs hr hu BRx BFx
    have HC5 := link_any q sb5 e4 _ R5.out
    rw [HS5.out, H5.out] at HC5
    simp only at HC5
    have HC5 := Lib.hid HC5
    go_wp2_with fail
    refine (HC5.out).mono ?_
    clear HC5
    rintro en w6 ⟨sb6, rfl, hs, hr, hu⟩
    have BRx := (hu.block w.heap.size (lt_of_block BR5.out) (by omega)).trans BR5.out
    have BFx := (hu.block w2.heap.size (lt_of_block BF5.out) (by omega)).trans BF5.out
    have HS6 := Lib.hid hs
    have hf6 : w6.frozen? ⟨w2.heap.size, 3, none⟩ = false := free_of BFx 3
    clear m0 m1 m2 m3 m4 m5 m6 ltm
    have m0 := cells_of BFx 0
    have m1 := cells_of BFx 1
    have m2 := cells_of BFx 2
    have m3 := cells_of BFx 3
    have m4 := cells_of BFx 4
    have m5 := cells_of BFx 5
    have m6 := cells_of BFx 6
    have ltm := lt_of_block BFx
    have R6 := Lib.hid (hr.set_ne (i := 3) (u := .int .i64 super) hne1)
    have U6 := Lib.hid ((U5.out.trans hu).set_new (b := w2.heap.size) (i := 3) (u := .int .i64 super) (by omega))
    have BR6 := Lib.hid (show (w6.setCell ⟨w2.heap.size, 3, none⟩ (.int .i64 super)).heap[w.heap.size]? = some (.cells #[.slice none 0 0, .int .i64 0, .int .i64 0, .int .i64 0, .slice none 0 0, .slice none 0 0, .slice none 0 0] 26 (0, 0)) from heap_setCell_ne (by show w.heap.size ≠ w2.heap.size; omega) BRx)
    have BF6 := Lib.hid (show (w6.setCell ⟨w2.heap.size, 3, none⟩ (.int .i64 super)).heap[w2.heap.size]? = some (.cells #[.slice a0 p.length c0, .int .i64 fl, .int .i64 this, .int .i64 super, .slice none 0 0, .slice none 0 0, .slice none 0 0] 26 (0, 0)) from heap_set_eq2 BFx)
    have ownC6 := Lib.hid (own_set (b := w2.heap.size) (i := 3) (u := .int .i64 super) (own_upd ownC5.out hu (by omega)) (by omega))
    clear hs hr hu BRx BFx
    have HC6 := listLink_read q sb6 e5 _ R6.out
    rw [HS6.out, H6.out] at HC6
    simp only at HC6
    have HC6 := Lib.hid HC6
    go_wp2_with fail
    refine (HC6.out).mono ?_
    clear HC6
    rintro en w7 ⟨vv, sb7, rfl, hown, hs, hr, hu⟩
    obtain ⟨a4, c4, rfl⟩ := own_form hown
    have BRx := (hu.block w.heap.size (lt_of_block BR6.out) (by omega)).trans BR6.out
    have BFx := (hu.block w2.heap.size (lt_of_block BF6.out) (by omega)).trans BF6.out
    have HS7 := Lib.hid hs
    have hf7 : w7.frozen? ⟨w2.heap.size, 4, none⟩ = false := free_of BFx 4
    clear m0 m1 m2 m3 m4 m5 m6 ltm
    have m0 := cells_of BFx 0
    have m1 := cells_of BFx 1
    have m2 := cells_of BFx 2
    have m3 := cells_of BFx 3
    have m4 := cells_of BFx 4
    have m5 := cells_of BFx 5
    have m6 := cells_of BFx 6
    have ltm := lt_of_block BFx
    have R7 := Lib.hid (hr.set_ne (i := 4) (u := .slice a4 is.length c4) hne1)
    have U7 := Lib.hid ((U6.out.trans hu).set_new (b := w2.heap.size) (i := 4) (u := .slice a4 is.length c4) (by omega))
    have BR7 := Lib.hid (show (w7.setCell ⟨w2.heap.size, 4, none⟩ (.slice a4 is.length c4)).heap[w.heap.size]? = some (.cells #[.slice none 0 0, .int .i64 0, .int .i64 0, .int .i64 0, .slice none 0 0, .slice none 0 0, .slice none 0 0] 26 (0, 0)) from heap_setCell_ne (by show w.heap.size ≠ w2.heap.size; omega) BRx)
    have BF7 := Lib.hid (show (w7.setCell ⟨w2.heap.size, 4, none⟩ (.slice a4 is.length c4)).heap[w2.heap.size]? = some (.cells #[.slice a0 p.length c0, .int .i64 fl, .int .i64 this, .int .i64 super, .slice a4 is.length c4, .slice none 0 0, .slice none 0 0] 26 (0, 0)) from heap_set_eq2 BFx)
    have ownC7 := Lib.hid (own_set (b := w2.heap.size) (i := 4) (u := .slice a4 is.length c4) (own_upd ownC6.out hu (by omega)) (by omega))
    have hbs4 : w2.heap.size < (w6.setCell ⟨w2.heap.size, 3, none⟩ (.int .i64 super)).heap.size := lt_of_block BF6.out
    have ownI7 := Lib.hid (own_less (own_set (i := 4) (u := .slice a4 is.length c4) hown hbs4) (base' := w2.heap.size + 1) (by omega))
    clear hown
    clear hs hr hu BRx BFx
    have HC7 := listHead_read q sb7 e6 _ R7.out
    rw [HS7.out, H7.out] at HC7
    simp only at HC7
    have HC7 := Lib.hid HC7
    go_wp2_with fail
    refine (HC7.out).mono ?_
    clear HC7
    rintro en w8 ⟨vv, sb8, rfl, hown, hs, hr, hu⟩
    obtain ⟨a5, c5, rfl⟩ := own_form hown
    have BRx := (hu.block w.heap.size (lt_of_block BR7.out) (by omega)).trans BR7.out
    have BFx := (hu.block w2.heap.size (lt_of_block BF7.out) (by omega)).trans BF7.out
    have HS8 := Lib.hid hs
    have hf8 : w8.frozen? ⟨w2.heap.size, 5, none⟩ = false := free_of BFx 5
    clear m0 m1 m2 m3 m4 m5 m6 ltm
    have m0 := cells_of BFx 0
    have m1 := cells_of BFx 1
    have m2 := cells_of BFx 2
    have m3 := cells_of BFx 3
    have m4 := cells_of BFx 4
    have m5 := cells_of BFx 5
    have m6 := cells_of BFx 6
    have ltm := lt_of_block BFx
    have R8 := Lib.hid (hr.set_ne (i := 5) (u := .slice a5 fd.length c5) hne1)
    have U8 := Lib.hid ((U7.out.trans hu).set_new (b := w2.heap.size) (i := 5) (u := .slice a5 fd.length c5) (by omega))
    have BR8 := Lib.hid (show (w8.setCell ⟨w2.heap.size, 5, none⟩ (.slice a5 fd.length c5)).heap[w.heap.size]? = some (.cells #[.slice none 0 0, .int .i64 0, .int .i64 0, .int .i64 0, .slice none 0 0, .slice none 0 0, .slice none 0 0] 26 (0, 0)) from heap_setCell_ne (by show w.heap.size ≠ w2.heap.size; omega) BRx)
    have BF8 := Lib.hid (show (w8.setCell ⟨w2.heap.size, 5, none⟩ (.slice a5 fd.length c5)).heap[w2.heap.size]? = some (.cells #[.slice a0 p.length c0, .int .i64 fl, .int .i64 this, .int .i64 super, .slice a4 is.length c4, .slice a5 fd.length c5, .slice none 0 0] 26 (0, 0)) from heap_set_eq2 BFx)
    have ownC8 := Lib.hid (own_set (b := w2.heap.size) (i := 5) (u := .slice a5 fd.length c5) (own_upd ownC7.out hu (by omega)) (by omega))
    have ownI8 := Lib.hid (own_set (b := w2.heap.size) (i := 5) (u := .slice a5 fd.length c5) (own_upd ownI7.out hu (by omega)) (by omega))
    have hbs5 : w2.heap.size < (w7.setCell ⟨w2.heap.size, 4, none⟩ (.slice a4 is.length c4)).heap.size := lt_of_block BF7.out
    have ownH8 := Lib.hid (own_less (own_set (i := 5) (u := .slice a5 fd.length c5) hown hbs5) (base' := w2.heap.size + 1) (by omega))
    clear hown
    clear hs hr hu BRx BFx
    have HC8 := listMeth_read q sb8 e7 _ R8.out
    rw [HS8.out, H8.out] at HC8
    simp only at HC8
    have HC8 := Lib.hid HC8
    go_wp2_with fail
    refine (HC8.out).mono ?_
    clear HC8
    rintro en w9 ⟨vv, sb9, ps, rfl, hps, hown, hnest, hs, hr, hu⟩
    obtain ⟨a6, c6, rfl⟩ := own_form hown
    have BRx := (hu.block w.heap.size (lt_of_block BR8.out) (by omega)).trans BR8.out
    have BFx := (hu.block w2.heap.size (lt_of_block BF8.out) (by omega)).trans BF8.out
    have HS9 := Lib.hid hs
    have hf9 : w9.frozen? ⟨w2.heap.size, 6, none⟩ = false := free_of BFx 6
    clear m0 m1 m2 m3 m4 m5 m6 ltm
    have m0 := cells_of BFx 0
    have m1 := cells_of BFx 1
    have m2 := cells_of BFx 2
    have m3 := cells_of BFx 3
    have m4 := cells_of BFx 4
    have m5 := cells_of BFx 5
    have m6 := cells_of BFx 6
    have ltm := lt_of_block BFx
    have r0 := cells_of BRx 0
    have fr0 : w9.frozen? ⟨w.heap.size, 0, none⟩ = false := free_of BRx 0
    have r1 := cells_of BRx 1
    have fr1 : w9.frozen? ⟨w.heap.size, 1, none⟩ = false := free_of BRx 1
    have r2 := cells_of BRx 2
    have fr2 : w9.frozen? ⟨w.heap.size, 2, none⟩ = false := free_of BRx 2
    have r3 := cells_of BRx 3
    have fr3 : w9.frozen? ⟨w.heap.size, 3, none⟩ = false := free_of BRx 3
    have r4 := cells_of BRx 4
    have fr4 : w9.frozen? ⟨w.heap.size, 4, none⟩ = false := free_of BRx 4
    have r5 := cells_of BRx 5
    have fr5 : w9.frozen? ⟨w.heap.size, 5, none⟩ = false := free_of BRx 5
    have r6 := cells_of BRx 6
    have fr6 : w9.frozen? ⟨w.heap.size, 6, none⟩ = false := free_of BRx 6
    have ltr := lt_of_block BRx
    have R9 := Lib.hid (hr.set_ne (i := 6) (u := .slice a6 ps.length c6) hne1)
    have U9 := Lib.hid ((U8.out.trans hu).set_new (b := w2.heap.size) (i := 6) (u := .slice a6 ps.length c6) (by omega))
    have BR9 := Lib.hid (show (w9.setCell ⟨w2.heap.size, 6, none⟩ (.slice a6 ps.length c6)).heap[w.heap.size]? = some (.cells #[.slice none 0 0, .int .i64 0, .int .i64 0, .int .i64 0, .slice none 0 0, .slice none 0 0, .slice none 0 0] 26 (0, 0)) from heap_setCell_ne (by show w.heap.size ≠ w2.heap.size; omega) BRx)
    have BF9 := Lib.hid (show (w9.setCell ⟨w2.heap.size, 6, none⟩ (.slice a6 ps.length c6)).heap[w2.heap.size]? = some (.cells #[.slice a0 p.length c0, .int .i64 fl, .int .i64 this, .int .i64 super, .slice a4 is.length c4, .slice a5 fd.length c5, .slice a6 ps.length c6] 26 (0, 0)) from heap_set_eq2 BFx)
    have ownC9 := Lib.hid (own_set (b := w2.heap.size) (i := 6) (u := .slice a6 ps.length c6) (own_upd ownC8.out hu (by omega)) (by omega))
    have ownI9 := Lib.hid (own_set (b := w2.heap.size) (i := 6) (u := .slice a6 ps.length c6) (own_upd ownI8.out hu (by omega)) (by omega))
    have ownH9 := Lib.hid (own_set (b := w2.heap.size) (i := 6) (u := .slice a6 ps.length c6) (own_upd ownH8.out hu (by omega)) (by omega))
    have hbs6 : w2.heap.size < (w8.setCell ⟨w2.heap.size, 5, none⟩ (.slice a5 fd.length c5)).heap.size := lt_of_block BF8.out
    have ownM9 := Lib.hid (own_less (own_set (i := 6) (u := .slice a6 ps.length c6) hown hbs6) (base' := w2.heap.size + 1) (by omega))
    have NM9 := Lib.hid (hnest.set (i := 6) (u := .slice a6 ps.length c6) hbs6)
    have HPS := Lib.hid hps
    clear hps hnest
    clear hown
    clear hs hr hu BRx BFx
    have RF := Lib.hid (((((((R9.out.set_ne (b := w.heap.size) (i := 0) (u := .slice a0 p.length c0) hne0).set_ne (b := w.heap.size) (i := 1) (u := .int .i64 fl) hne0).set_ne (b := w.heap.size) (i := 2) (u := .int .i64 this) hne0).set_ne (b := w.heap.size) (i := 3) (u := .int .i64 super) hne0).set_ne (b := w.heap.size) (i := 4) (u := .slice a4 is.length c4) hne0).set_ne (b := w.heap.size) (i := 5) (u := .slice a5 fd.length c5) hne0).set_ne (b := w.heap.size) (i := 6) (u := .slice a6 ps.length c6) hne0)
    have UF := Lib.hid (((((((U9.out.set_new (b := w.heap.size) (i := 0) (u := .slice a0 p.length c0) (Nat.le_refl _)).set_new (b := w.heap.size) (i := 1) (u := .int .i64 fl) (Nat.le_refl _)).set_new (b := w.heap.size) (i := 2) (u := .int .i64 this) (Nat.le_refl _)).set_new (b := w.heap.size) (i := 3) (u := .int .i64 super) (Nat.le_refl _)).set_new (b := w.heap.size) (i := 4) (u := .slice a4 is.length c4) (Nat.le_refl _)).set_new (b := w.heap.size) (i := 5) (u := .slice a5 fd.length c5) (Nat.le_refl _)).set_new (b := w.heap.size) (i := 6) (u := .slice a6 ps.length c6) (Nat.le_refl _))
    have BF := Lib.hid (heap_set_eq2 (i := 6) (u := .slice a6 ps.length c6) (heap_set_eq2 (i := 5) (u := .slice a5 fd.length c5) (heap_set_eq2 (i := 4) (u := .slice a4 is.length c4) (heap_set_eq2 (i := 3) (u := .int .i64 super) (heap_set_eq2 (i := 2) (u := .int .i64 this) (heap_set_eq2 (i := 1) (u := .int .i64 fl) (heap_set_eq2 (i := 0) (u := .slice a0 p.length c0) BR9.out)))))))
    have ownCF := Lib.hid (own_set (b := w.heap.size) (i := 6) (u := .slice a6 ps.length c6) (own_set (b := w.heap.size) (i := 5) (u := .slice a5 fd.length c5) (own_set (b := w.heap.size) (i := 4) (u := .slice a4 is.length c4) (own_set (b := w.heap.size) (i := 3) (u := .int .i64 super) (own_set (b := w.heap.size) (i := 2) (u := .int .i64 this) (own_set (b := w.heap.size) (i := 1) (u := .int .i64 fl) (own_set (b := w.heap.size) (i := 0) (u := .slice a0 p.length c0) ownC9.out (by omega)) (by omega)) (by omega)) (by omega)) (by omega)) (by omega)) (by omega))
    have ownIF := Lib.hid (own_set (b := w.heap.size) (i := 6) (u := .slice a6 ps.length c6) (own_set (b := w.heap.size) (i := 5) (u := .slice a5 fd.length c5) (own_set (b := w.heap.size) (i := 4) (u := .slice a4 is.length c4) (own_set (b := w.heap.size) (i := 3) (u := .int .i64 super) (own_set (b := w.heap.size) (i := 2) (u := .int .i64 this) (own_set (b := w.heap.size) (i := 1) (u := .int .i64 fl) (own_set (b := w.heap.size) (i := 0) (u := .slice a0 p.length c0) ownI9.out (by omega)) (by omega)) (by omega)) (by omega)) (by omega)) (by omega)) (by omega))
    have ownHF := Lib.hid (own_set (b := w.heap.size) (i := 6) (u := .slice a6 ps.length c6) (own_set (b := w.heap.size) (i := 5) (u := .slice a5 fd.length c5) (own_set (b := w.heap.size) (i := 4) (u := .slice a4 is.length c4) (own_set (b := w.heap.size) (i := 3) (u := .int .i64 super) (own_set (b := w.heap.size) (i := 2) (u := .int .i64 this) (own_set (b := w.heap.size) (i := 1) (u := .int .i64 fl) (own_set (b := w.heap.size) (i := 0) (u := .slice a0 p.length c0) ownH9.out (by omega)) (by omega)) (by omega)) (by omega)) (by omega)) (by omega)) (by omega))
    have ownMF := Lib.hid (own_set (b := w.heap.size) (i := 6) (u := .slice a6 ps.length c6) (own_set (b := w.heap.size) (i := 5) (u := .slice a5 fd.length c5) (own_set (b := w.heap.size) (i := 4) (u := .slice a4 is.length c4) (own_set (b := w.heap.size) (i := 3) (u := .int .i64 super) (own_set (b := w.heap.size) (i := 2) (u := .int .i64 this) (own_set (b := w.heap.size) (i := 1) (u := .int .i64 fl) (own_set (b := w.heap.size) (i := 0) (u := .slice a0 p.length c0) ownM9.out (by omega)) (by omega)) (by omega)) (by omega)) (by omega)) (by omega)) (by omega))
    have NF := Lib.hid (Nest.set (b := w.heap.size) (i := 6) (u := .slice a6 ps.length c6) (Nest.set (b := w.heap.size) (i := 5) (u := .slice a5 fd.length c5) (Nest.set (b := w.heap.size) (i := 4) (u := .slice a4 is.length c4) (Nest.set (b := w.heap.size) (i := 3) (u := .int .i64 super) (Nest.set (b := w.heap.size) (i := 2) (u := .int .i64 this) (Nest.set (b := w.heap.size) (i := 1) (u := .int .i64 fl) (Nest.set (b := w.heap.size) (i := 0) (u := .slice a0 p.length c0) NM9.out (by omega)) (by omega)) (by omega)) (by omega)) (by omega)) (by omega)) (by omega))
    go_wp2
    obtain ⟨W, hW⟩ : ∃ W, W = ((((((((w9.setCell ⟨w2.heap.size, 6, none⟩ (.slice a6 ps.length c6)).setCell ⟨w.heap.size, 0, none⟩ (.slice a0 p.length c0)).setCell ⟨w.heap.size, 1, none⟩ (.int .i64 fl)).setCell ⟨w.heap.size, 2, none⟩ (.int .i64 this)).setCell ⟨w.heap.size, 3, none⟩ (.int .i64 super)).setCell ⟨w.heap.size, 4, none⟩ (.slice a4 is.length c4)).setCell ⟨w.heap.size, 5, none⟩ (.slice a5 fd.length c5)).setCell ⟨w.heap.size, 6, none⟩ (.slice a6 ps.length c6)) := ⟨_, rfl⟩
    rw [← hW] at RF UF BF ownCF ownIF ownHF ownMF NF
    rw [← hW]
    clear hW
    have BV := BF.out
    have t0 := cells_of BV 0
    have t1 := cells_of BV 1
    have t2 := cells_of BV 2
    have t3 := cells_of BV 3
    have t4 := cells_of BV 4
    have t5 := cells_of BV 5
    have t6 := cells_of BV 6
    have hpsl : ps.length = mt.length := by rw [HPS.out, List.length_map]
    refine bodyPost_ret (v := flV a0 c0 a4 c4 a5 c5 a6 c6 ⟨p, fl, this, super, is, fd.map headM, mt⟩) (by simp [results, Try.results34, go_sem, flV, t0, t1, t2, t3, t4, t5, t6, hpsl]) rfl ⟨a0, c0, a4, c4, a5, c5, a6, c6, sb9, by rw [HD.out], ?_, ?_, ?_, UF.out⟩
    · rw [HD.out]
      refine ⟨own_less ownCF.out (by omega), own_less ownIF.out (by omega), ⟨fd, rfl, ?_⟩, ps, HPS.out, ?_, fun x hx => own_less (NF.out x hx) (by omega)⟩
      · simp only [List.length_map]
        exact own_less ownHF.out (by omega)
      · simp only
        rw [← hpsl]
        exact own_less ownMF.out (by omega)
    · rw [HD.out]
      exact HS9.out
    · rw [HD.out]
      exact RF.out
end Go.Proofs.Ytcgloepfnnfioaa
