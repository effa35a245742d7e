/-
  WALK of maps: maps of rows of bits.
-/
import Derived.Test.YtgepgbpjdjbelaaRm
set_option linter.unusedVariables false
set_option linter.unusedSimpArgs false
namespace Go.Proofs.Ytgepgbpjdjbelaa
open Go.RowKit

/-- The row's block is the one that it was, or a new one. -/
def Moved (w : World) (v v' : Value) : Prop := v'.ownBlock = v.ownBlock ∨ ∃ g, v'.ownBlock = some g ∧ w.heap.size ≤ g
theorem append_where {P : Program} (w : World) (base : Nat) (t ty e : TypeId) (i : TypeInfo) (z : Value) (size bytes : Nat) (ht : P.underlying t = some (.slice e)) (hi : P.info? e = some i) (hz : i.zero = some z)
    (hsize : i.size = size) (hby : i.bytes = bytes) (hzs : z.cells.size = size) (hsz : 0 < size)
    (v : Value) (n : Nat) (xs : List Value) (hown : w.ownsRow base e size v n xs)
    (a : Addr) (m c : Nat) (news : List Value) (hl : news.length = m * size) (hnews : ∀ j u, news[j]? = some u → w.cell? (a.add j) = some u) (h1 : ∀ u ∈ news, u.oneCell' = true)
    (h63 : n + m ≤ maxLen) (hbytes : (n + m) * bytes ≤ 140737488355328) {v' : Value} {w' : World}
    (hr : (Builtin.append_ #[t, t] ty #[v, .slice (some a) m c]).run P w = .ok v' w') : Moved w v v' := by
  rcases hown.2 with ⟨rfl, rfl⟩ | ⟨g, cap, cur, rfl, hbg, hg, hnc, hcm, hcs, htake⟩
  · have hx : xs = [] := List.eq_nil_of_length_eq_zero (by simpa using hown.1)
    subst hx
    obtain ⟨v2, w2, hr2, h2, _, _⟩ := run_append_own (P := P) w w.heap.size t ty e i z size bytes ht hi hz hsize hby hzs hsz (.slice none 0 0) 0 [] (World.ownsRow_nil _ _ _ _) a m c news hl hnews h1 h63 hbytes (Nat.le_refl _)
    rw [hr] at hr2
    injection hr2 with e1 e2
    subst e1
    rcases hb : v'.ownBlock with _ | g
    · exact .inl hb
    · exact .inr ⟨g, hb, own_block_ge h2 g hb⟩
  · by_cases hroom : n + m ≤ cap
    · obtain ⟨w2, hr2, _⟩ := run_append_fits (P := P) w base t ty e i size ht hi hsize g n cap xs hown a m c news hl hnews h1 hroom
      rw [hr] at hr2
      injection hr2 with e1 e2
      subst e1
      exact .inl rfl
    · subst hsize
      subst hby
      have hsmall : n + m ≤ 9223372036854775807 := by simp only [maxLen] at h63; omega
      have hr2 := run_append_grow (P := P) w t ty e i z ht hi hz ⟨g, 0, none⟩ n cap xs hown.1 (hown.cells (g := g) rfl) a m c news hl hnews (by omega) (by omega) (growslice_fits (by omega) hbytes)
      rw [hr] at hr2
      injection hr2 with e1 e2
      subst e1
      exact .inr ⟨_, rfl, Nat.le_refl _⟩
theorem wp_append_own2 {P : Program} {w : World} {o : Oper} {a : Act} {K : Act → World → Prop} {Q : Exit → Act → World → Prop} (s x : Operand) (t : TypeId)
    (ho : o.op = .call { callee := .builtin .append, args := #[s, x], argTypes := #[t, t] })
    (base : Nat) (e : TypeId) (i : TypeInfo) (z : Value) (size bytes : Nat) (ht : P.underlying t = some (.slice e)) (hi : P.info? e = some i) (hz : i.zero = some z)
    (hsize : i.size = size) (hby : i.bytes = bytes) (hzs : z.cells.size = size) (hsz : 0 < size)
    (v : Value) (n : Nat) (xs : List Value) (hs : a.eval s = v) (hown : w.ownsRow base e size v n xs)
    (ad : Addr) (m c : Nat) (news : List Value) (hx : a.eval x = .slice (some ad) m c) (hl : news.length = m * size) (hnews : ∀ j u, news[j]? = some u → w.cell? (ad.add j) = some u) (h1 : ∀ u ∈ news, u.oneCell' = true)
    (h63 : n + m ≤ maxLen) (hbytes : (n + m) * bytes ≤ 140737488355328) (hbase : base ≤ w.heap.size)
    (h : ∀ v' w', w'.ownsRow base e size v' (n + m) (xs ++ news) → w.grownBy w' v.ownBlock → Moved w v v' → K (a.put o.dst v') w') : o.wp P a w K Q := by
  obtain ⟨v', w', hr, h2, h3, h4⟩ := run_append_own (P := P) w base t o.type e i z size bytes ht hi hz hsize hby hzs hsz v n xs hown ad m c news hl hnews h1 h63 hbytes hbase
  have h5 := append_where (P := P) w base t o.type e i z size bytes ht hi hz hsize hby hzs hsz v n xs hown ad m c news hl hnews h1 h63 hbytes hr
  unfold Oper.wp execOp
  simp only [ho, resolve, invoke, builtin, Sem.run_bind, Sem.run_pure, Result.andThen_ok, List.map_toArray, List.map_cons, List.map_nil, hs, hx, hr]
  exact h v' w' h2 h3 h5
theorem hstep_append_own2 {P : Program} {ops : Array Oper} {w : World} {o : Oper} {a : Act} {K : Act → World → Prop} {Q : Exit → Act → World → Prop} {E : Prop} (hgd : o.guard = none) (s x : Operand) (t : TypeId)
    (ho : o.op = .call { callee := .builtin .append, args := #[s, x], argTypes := #[t, t] })
    (base : Nat) (e : TypeId) (i : TypeInfo) (z : Value) (size bytes : Nat) (ht : P.underlying t = some (.slice e)) (hi : P.info? e = some i) (hz : i.zero = some z)
    (hsize : i.size = size) (hby : i.bytes = bytes) (hzs : z.cells.size = size) (hsz : 0 < size)
    (v : Value) (n : Nat) (xs : List Value) (hs : a.eval s = v) (hown : w.ownsRow base e size v n xs)
    (ad : Addr) (m c : Nat) (news : List Value) (hx : a.eval x = .slice (some ad) m c) (hl : news.length = m * size) (hnews : ∀ j u, news[j]? = some u → w.cell? (ad.add j) = some u) (h1 : ∀ u ∈ news, u.oneCell' = true)
    (h63 : n + m ≤ maxLen) (hbytes : (n + m) * bytes ≤ 140737488355328) (hbase : base ≤ w.heap.size)
    (h : ∀ v' w', w'.ownsRow base e size v' (n + m) (xs ++ news) → w.grownBy w' v.ownBlock → Moved w v v' → K (a.put o.dst v') w') :
    if Region.wanted o (yielded ops a.tmps) = true then Oper.wp P o a w K Q else E := by
  have hw : Region.wanted o (yielded ops a.tmps) = true := by simp [Region.wanted, hgd]
  rw [if_pos hw]
  exact wp_append_own2 s x t ho base e i z size bytes ht hi hz hsize hby hzs hsz v n xs hs hown ad m c news hx hl hnews h1 h63 hbytes hbase h
/-- Where a row is cut: how many bits are the locals'. -/
def kOf (locs : List Int) (i len : Nat) : Nat := match locs[i]? with
  | some c => pickN c (len + 1)
  | none => 0
theorem kOf_le (locs : List Int) (i len : Nat) : kOf locs i len ≤ len := by
  unfold kOf
  cases locs[i]? with
  | none => exact Nat.zero_le _
  | some c => exact Nat.le_of_lt_succ (pickN_lt c (Nat.succ_pos _))
def mk1 (rows : List (List Bool)) (locs : List Int) (i : Nat) : MP := (((rows[i]?).getD []).take (kOf locs i ((rows[i]?).getD []).length), ((rows[i]?).getD []).drop (kOf locs i ((rows[i]?).getD []).length))
def mkM (rows : List (List Bool)) (locs : List Int) (n : Nat) : List MP := (List.range n).map (mk1 rows locs)
theorem mkM_len (rows : List (List Bool)) (locs : List Int) (n : Nat) : (mkM rows locs n).length = n := by simp [mkM]
theorem mkM_succ (rows : List (List Bool)) (locs : List Int) (n : Nat) : mkM rows locs (n + 1) = mkM rows locs n ++ [mk1 rows locs n] := by simp [mkM, List.range_succ]
theorem und36 : Try.prog.underlying 36 = some (.slice 32) := by kernel_rfl
theorem info32 : (Try.prog.info? 32).map (fun i => (i.zero, i.size, i.bytes)) = some (some (.agg #[.slice none 0 0, .slice none 0 0]), 2, 48) := by kernel_rfl
theorem brow_take {B : Nat} {w : World} {A : Option Addr} {n c k : Nat} {r : List Bool} (h : BRow B w (.slice A n c) r) (hn : r.length = n) (hk : k ≤ n) : BRow B w (.slice A k c) (r.take k) := by
  subst hn
  obtain ⟨A', c', e, h1, h2, h3, h4⟩ := h
  injection e with e1 e2 e3
  subst e1; subst e3
  have hl : (r.take k).length = k := by rw [List.length_take]; omega
  refine ⟨A, c, by rw [hl], by omega, by omega, by rw [bcells_len, Nat.mul_one], fun h0 => ?_⟩
  obtain ⟨b, o, e, hb, hc⟩ := h4 (by omega)
  refine ⟨b, o, e, hb, fun j u hu => hc j u ?_⟩
  unfold bcells at hu ⊢
  rw [List.getElem?_map] at hu ⊢
  have hj : j < k := by
    apply Classical.byContradiction
    intro h
    rw [List.getElem?_eq_none (by omega)] at hu
    cases hu
  rwa [List.getElem?_take, if_pos hj] at hu
theorem brow_drop {B : Nat} {w : World} {A : Option Addr} {n c k : Nat} {r : List Bool} (h : BRow B w (.slice A n c) r) (hn : r.length = n) (hk : k ≤ n) : BRow B w (.slice (if c = k then A else Option.map (fun x => x.add k) A) (n - k) (c - k)) (r.drop k) := by
  subst hn
  obtain ⟨A', c', e, h1, h2, h3, h4⟩ := h
  injection e with e1 e2 e3
  subst e1; subst e3
  have hl : (r.drop k).length = r.length - k := List.length_drop
  refine ⟨_, c - k, by rw [hl], by omega, by unfold maxLen at *; omega, by rw [bcells_len, Nat.mul_one], fun h0 => ?_⟩
  obtain ⟨b, o, e, hb, hc⟩ := h4 (by omega)
  refine ⟨b, o + k, ?_, hb, fun j u hu => ?_⟩
  · rw [if_neg (by omega), e, Option.map_some, plain_add]
  · rw [Nat.add_assoc]
    refine hc (k + j) u ?_
    unfold bcells at hu ⊢
    rw [List.getElem?_map] at hu ⊢
    rwa [List.getElem?_drop] at hu
set_option maxRecDepth 1000000 in
set_option maxHeartbeats 6400000 in
theorem maps_any (rows : List (List Bool)) (locs : List Int) (vr vl : Value) (B : Nat) (w : World) (hr : BBRow B w vr rows) (hl : IRow B w vl locs) (hz : ∀ c ∈ locs, -9223372036854775808 ≤ c ∧ c ≤ 9223372036854775807) (hB : B ≤ w.heap.size) :
    Calls Try.prog 13 #[vr, vl] w fun e w' => ∃ va vb, e = .returned (.tuple #[va, vb]) ∧ MRow w'.heap.size w' va (mkM rows locs (min rows.length 5000)) ∧ MRow w'.heap.size w' vb (mkM rows locs (min rows.length 5000)) ∧ Below w.heap.size w w' := by
  obtain ⟨A, c, rfl, hlc, hlm⟩ := hr.form
  obtain ⟨A2, c2, rfl, hlc2, hlm2⟩ := hl.form
  unfold maxLen at hlm hlm2
  obtain ⟨i27, hi27, hz27, hs27, hb27⟩ := info_parts info27
  obtain ⟨i32, hi32, hz32, hs32, hb32⟩ := info_parts info32
  have HR := Lib.hid hr
  have HL := Lib.hid hl
  have HZ := Lib.hid hz
  obtain ⟨m, hm⟩ : ∃ m, rows.length = m := ⟨_, rfl⟩
  obtain ⟨ml, hml⟩ : ∃ m, locs.length = m := ⟨_, rfl⟩
  have HM := Lib.hid hm
  have HML := Lib.hid hml
  rw [hm] at hlc hlm HR ⊢
  rw [hml] at hlc2 hlm2 HL ⊢
  obtain ⟨n, hn⟩ : ∃ n, min m 5000 = n := ⟨_, rfl⟩
  rw [hn]
  have hn1 : n ≤ m := by omega
  have hn2 : n ≤ 5000 := by omega
  have hn3 : n < m → n = 5000 := by omega
  have hlmI : (m : Int) ≤ 9223372036854775807 := by omega
  have hlmI2 : (ml : Int) ≤ 9223372036854775807 := by omega
  clear hr hl hz hm hml hn
  go_enter Try.func13, Try.ntmps13
  go_wp2
  go_loopw [6, 7, 8] (fun va vb iv wx => ∃ (i : Nat) (ps : List (Value × Value)), i ≤ n ∧ iv = .int .i64 (i : Int) ∧ MSub (BRow B wx) (mkM rows locs i) ps ∧ wx.ownsRow w.heap.size 27 2 va i (ps.flatMap mcells) ∧ wx.ownsRow w.heap.size 32 2 vb i (ps.flatMap mcells) ∧ Below w.heap.size w wx) (fun _ _ iv _ => n - (intOf iv).toNat)
  case atStart => exact ⟨0, [], Nat.zero_le _, rfl, MSub.nil, World.ownsRow_nil _ _ _ _, World.ownsRow_nil _ _ _ _, Below.refl _ _⟩
  case round =>
    obtain ⟨i, ps, hin, rfl, hsub, ho1, ho2, hbw⟩ := hrel
    have HS := Lib.hid hsub
    have HBW := Lib.hid hbw
    have hsz := hbw.size
    obtain ⟨g1, d1, rfl⟩ := own_form ho1
    obtain ⟨g2, d2, rfl⟩ := own_form ho2
    have O1 := Lib.hid ho1
    have O2 := Lib.hid ho2
    clear hsub hbw ho1 ho2
    by_cases hlt : i < n
    · obtain ⟨r, hrx⟩ : ∃ r, rows[i]? = some r := ⟨_, List.getElem?_eq_getElem (by rw [HM.out]; omega)⟩
      obtain ⟨b, o, Ak, ck, rfl, hbB, rr, x0⟩ := HR.out.at_ hrx
      have hbw0 : b < w.heap.size := by omega
      have X0 := Lib.hid x0
      have RR := Lib.hid rr
      obtain ⟨Ak', ck', ec, hrcap, hrc⟩ := rr.form
      have ec3 : ck = ck' := by injection ec
      rw [← ec3] at hrcap
      clear ec3 ec
      have x1 := (HBW.out.cell (p := ⟨b, o + i, none⟩) hbw0).trans x0
      have hbwr : b < wr.heap.size := by omega
      have hi5 : (i : Int) < 5000 := by omega
      have him : (i : Int) < (m : Int) := by omega
      obtain ⟨rl, hrl⟩ : ∃ n, r.length = n := ⟨_, rfl⟩
      have HRL := Lib.hid hrl
      rw [hrl] at x1 X0 RR
      have HX := Lib.hid hrx
      clear x0 rr hrx hrl
      obtain ⟨k, hk⟩ : ∃ k, kOf locs i rl = k := ⟨_, rfl⟩
      have hkl : k ≤ rl := by rw [← hk]; exact kOf_le _ _ _
      have HK := Lib.hid hk
      have HBR := Lib.hid x1
      clear hk
      go_upto_if 29 with fail
      go_cut [10] (fun va wx => va = .int .i64 (k : Int) ∧ wx = wr)
      case first => as_aux_lemma =>
        by_cases hil : i < ml
        · have hili : (i : Int) < (ml : Int) := by omega
          obtain ⟨z, hz⟩ : ∃ z, locs[i]? = some z := ⟨_, List.getElem?_eq_getElem (by rw [HML.out]; exact hil)⟩
          obtain ⟨b2, o2, rfl, hb2, y0⟩ := HL.out.at_ hz
          have y1 := (HBW.out.cell (p := ⟨b2, o2 + i, none⟩) (by show b2 < _; omega)).trans y0
          have hzr := HZ.out z (List.mem_of_getElem? hz)
          have hkz : k = pickN z (rl + 1) := by rw [← HK.out]; unfold kOf; rw [hz]
          have HKZ := Lib.hid hkz
          have HZR := Lib.hid hzr
          clear y0 hz hzr hkz HK
          by_cases htop : rl = 9223372036854775807
          · have hwr : IntKind.i64.wrap ((rl : Int) + 1) = -9223372036854775808 := by rw [htop]; decide
            have HPT := Lib.hid (pick_top z wr HZR.out)
            rw [show (9223372036854775808 : Nat) = rl + 1 by omega, ← HKZ.out] at HPT
            clear htop
            go_wp2_with fail
            refine HPT.out.mono ?_
            rintro e w5 ⟨rfl, hw5⟩
            rw [hw5]
            go_wp2
            go_meet
            case rel => exact ⟨rfl, by first | rfl | trivial⟩
          · have hwr : IntKind.i64.wrap ((rl : Int) + 1) = ((rl + 1 : Nat) : Int) := by rw [IntWalk.i64_in _ (by unfold maxLen at hrc; have := HRL.out; omega)]; omega
            have HPA := Lib.hid (pick_any z (rl + 1) wr HZR.out (by omega) (by unfold maxLen at hrc; have := HRL.out; omega))
            rw [← HKZ.out] at HPA
            obtain ⟨q, hq⟩ : ∃ q, rl + 1 = q := ⟨_, rfl⟩
            rw [hq] at hwr HPA
            clear htop hq
            go_wp2_with fail
            refine HPA.out.mono ?_
            rintro e w5 ⟨rfl, hw5⟩
            rw [hw5]
            go_wp2
            go_meet
            case rel => exact ⟨rfl, by first | rfl | trivial⟩
        · have hili : ¬ (i : Int) < (ml : Int) := by omega
          have hk0 : k = 0 := by rw [← HK.out]; unfold kOf; rw [List.getElem?_eq_none (by rw [HML.out]; omega)]
          subst hk0
          go_wp2
          go_meet
          case rel => exact ⟨rfl, by first | rfl | trivial⟩
      obtain ⟨rfl, hwc⟩ := hcut
      rw [hwc]
      clear hwc wc
      have hrck : rl ≤ ck := by have := HRL.out; omega
      have hklI : (k : Int) ≤ (rl : Int) := by omega
      have hkck : (k : Int) ≤ (ck : Int) := by omega
      have hk0I : (0 : Int) ≤ (k : Int) := by omega
      have hrckI : (rl : Int) ≤ (ck : Int) := by omega
      obtain ⟨Ad, hAd⟩ : ∃ a, (if ck = k then Ak else Option.map (fun x => x.add k) Ak) = a := ⟨_, rfl⟩
      have BT := Lib.hid (brow_take RR.out HRL.out hkl)
      have BD := brow_drop RR.out HRL.out hkl
      rw [hAd] at BD
      have HBD := Lib.hid BD
      clear BD
      have hszX := HBW.out.size
      have O1d : wr.drew.ownsRow w.heap.size 27 2 (.slice g1 i d1) i (ps.flatMap mcells) := O1.out
      have O2d : wr.drew.ownsRow w.heap.size 32 2 (.slice g2 i d2) i (ps.flatMap mcells) := O2.out
      go_upto_region 10 with fail
      have TD := HBW.out.drew
      go_cut [6] (fun va wx => ∃ g d, va = .slice g (i + 1) d ∧ wx.ownsRow w.heap.size 27 2 (.slice g (i + 1) d) (i + 1) (ps.flatMap mcells ++ [.slice Ak k ck, .slice Ad (rl - k) (ck - k)]) ∧ wx.ownsRow w.heap.size 32 2 (.slice g2 i d2) i (ps.flatMap mcells) ∧ Below w.heap.size w wx)
      case first =>
        have T0 := TD
        refine wp_region_held_drew (S := fun U => Below w.heap.size w U) (by kernel_rfl) T0 (fun hS0 => ?_)
        refine wpAnyH_take (i := 0) (oi := ({ dst := some 37, op := Op.move (Operand.tmp 6), type := 35, pos := "law.go:91", after := #[], guard := none } : Oper)) (v := ?av801) rfl (by kernel_rfl) (by kernel_rfl) (by kernel_rfl) (fun _ _ _ h => h) (Or.inl ⟨by rfl, ?ay801⟩) T0 ?_
        case ay801 => (intro V hSw; go_simp; try with_reducible rfl)
        try simp only [Act.put, List.setIfInBounds_toArray, List.set_cons_zero, List.set_cons_succ]
        refine wpAnyH_take (i := 1) (oi := ({ dst := some 38, op := Op.move (Operand.tmp 0), type := 43, pos := "law.go:91", after := #[], guard := none } : Oper)) (v := ?av802) rfl (by kernel_rfl) (by kernel_rfl) (by kernel_rfl) (fun _ _ _ h => h) (Or.inl ⟨by rfl, ?ay802⟩) T0 ?_
        case ay802 => (intro V hSw; go_simp; try with_reducible rfl)
        try simp only [Act.put, List.setIfInBounds_toArray, List.set_cons_zero, List.set_cons_succ]
        refine wpAnyH_take (i := 2) (oi := ({ dst := some 39, op := Op.move (Operand.tmp 8), type := 3, pos := "law.go:91", after := #[], guard := none } : Oper)) (v := ?av803) rfl (by kernel_rfl) (by kernel_rfl) (by kernel_rfl) (fun _ _ _ h => h) (Or.inl ⟨by rfl, ?ay803⟩) T0 ?_
        case ay803 => (intro V hSw; go_simp; try with_reducible rfl)
        try simp only [Act.put, List.setIfInBounds_toArray, List.set_cons_zero, List.set_cons_succ]
        refine wpAnyH_take (i := 3) (oi := ({ dst := some 40, op := Op.indexAddr 43 (Operand.tmp 38) (Operand.tmp 39), type := 0, pos := "law.go:91", after := #[{ on := 1, ground := Ground.data }, { on := 2, ground := Ground.data }], guard := none } : Oper)) (v := ?av804) rfl (by kernel_rfl) (by kernel_rfl) (by kernel_rfl) (fun _ _ _ h => h) (Or.inl ⟨by rfl, ?ay804⟩) T0 ?_
        case ay804 => (intro V hSw; go_simp; try with_reducible rfl)
        try simp only [Act.put, List.setIfInBounds_toArray, List.set_cons_zero, List.set_cons_succ]
        refine wpAnyH_take (i := 4) (oi := ({ dst := some 41, op := Op.load 23 (Operand.tmp 40), type := 23, pos := "law.go:91", after := #[{ on := 3, ground := Ground.data }], guard := none } : Oper)) (v := ?av805) rfl (by kernel_rfl) (by kernel_rfl) (by kernel_rfl) (fun _ _ _ h => h) (Or.inl ⟨by rfl, ?ay805⟩) T0 ?_
        case ay805 => (intro V hSw; have x0s := (hSw.cell (p := ⟨b, o + i, none⟩) hbw0).trans X0.out; go_simp; try with_reducible rfl)
        try simp only [Act.put, List.setIfInBounds_toArray, List.set_cons_zero, List.set_cons_succ]
        refine wpAnyH_take (i := 5) (oi := ({ dst := some 42, op := Op.move (Operand.tmp 10), type := 3, pos := "law.go:91", after := #[], guard := none } : Oper)) (v := ?av806) rfl (by kernel_rfl) (by kernel_rfl) (by kernel_rfl) (fun _ _ _ h => h) (Or.inl ⟨by rfl, ?ay806⟩) T0 ?_
        case ay806 => (intro V hSw; go_simp; try with_reducible rfl)
        try simp only [Act.put, List.setIfInBounds_toArray, List.set_cons_zero, List.set_cons_succ]
        refine wpAnyH_take (i := 6) (oi := ({ dst := some 43, op := Op.slice 23 (Operand.tmp 41) none (some (Operand.tmp 42)) none, type := 23, pos := "law.go:91", after := #[{ on := 4, ground := Ground.data }, { on := 5, ground := Ground.data }], guard := none } : Oper)) (v := ?av807) rfl (by kernel_rfl) (by kernel_rfl) (by kernel_rfl) (fun _ _ _ h => h) (Or.inl ⟨by rfl, ?ay807⟩) T0 ?_
        case ay807 => (intro V hSw; go_simp; try with_reducible rfl)
        try simp only [Act.put, List.setIfInBounds_toArray, List.set_cons_zero, List.set_cons_succ]
        refine wpAnyH_take (i := 7) (oi := ({ dst := some 44, op := Op.move (Operand.tmp 0), type := 43, pos := "law.go:91", after := #[], guard := none } : Oper)) (v := ?av808) rfl (by kernel_rfl) (by kernel_rfl) (by kernel_rfl) (fun _ _ _ h => h) (Or.inl ⟨by rfl, ?ay808⟩) T0 ?_
        case ay808 => (intro V hSw; go_simp; try with_reducible rfl)
        try simp only [Act.put, List.setIfInBounds_toArray, List.set_cons_zero, List.set_cons_succ]
        refine wpAnyH_take (i := 8) (oi := ({ dst := some 45, op := Op.move (Operand.tmp 8), type := 3, pos := "law.go:91", after := #[], guard := none } : Oper)) (v := ?av809) rfl (by kernel_rfl) (by kernel_rfl) (by kernel_rfl) (fun _ _ _ h => h) (Or.inl ⟨by rfl, ?ay809⟩) T0 ?_
        case ay809 => (intro V hSw; go_simp; try with_reducible rfl)
        try simp only [Act.put, List.setIfInBounds_toArray, List.set_cons_zero, List.set_cons_succ]
        refine wpAnyH_take (i := 9) (oi := ({ dst := some 46, op := Op.indexAddr 43 (Operand.tmp 44) (Operand.tmp 45), type := 0, pos := "law.go:91", after := #[{ on := 7, ground := Ground.data }, { on := 8, ground := Ground.data }], guard := none } : Oper)) (v := ?av810) rfl (by kernel_rfl) (by kernel_rfl) (by kernel_rfl) (fun _ _ _ h => h) (Or.inl ⟨by rfl, ?ay810⟩) T0 ?_
        case ay810 => (intro V hSw; go_simp; try with_reducible rfl)
        try simp only [Act.put, List.setIfInBounds_toArray, List.set_cons_zero, List.set_cons_succ]
        refine wpAnyH_take (i := 10) (oi := ({ dst := some 47, op := Op.load 23 (Operand.tmp 46), type := 23, pos := "law.go:91", after := #[{ on := 9, ground := Ground.data }], guard := none } : Oper)) (v := ?av811) rfl (by kernel_rfl) (by kernel_rfl) (by kernel_rfl) (fun _ _ _ h => h) (Or.inl ⟨by rfl, ?ay811⟩) T0 ?_
        case ay811 => (intro V hSw; have x0s := (hSw.cell (p := ⟨b, o + i, none⟩) hbw0).trans X0.out; go_simp; try with_reducible rfl)
        try simp only [Act.put, List.setIfInBounds_toArray, List.set_cons_zero, List.set_cons_succ]
        refine wpAnyH_take (i := 11) (oi := ({ dst := some 48, op := Op.move (Operand.tmp 10), type := 3, pos := "law.go:91", after := #[], guard := none } : Oper)) (v := ?av812) rfl (by kernel_rfl) (by kernel_rfl) (by kernel_rfl) (fun _ _ _ h => h) (Or.inl ⟨by rfl, ?ay812⟩) T0 ?_
        case ay812 => (intro V hSw; go_simp; try with_reducible rfl)
        try simp only [Act.put, List.setIfInBounds_toArray, List.set_cons_zero, List.set_cons_succ]
        refine wpAnyH_take (i := 12) (oi := ({ dst := some 49, op := Op.slice 23 (Operand.tmp 47) (some (Operand.tmp 48)) none none, type := 23, pos := "law.go:91", after := #[{ on := 10, ground := Ground.data }, { on := 11, ground := Ground.data }], guard := none } : Oper)) (v := ?av813) rfl (by kernel_rfl) (by kernel_rfl) (by kernel_rfl) (fun _ _ _ h => h) (Or.inl ⟨by rfl, ?ay813⟩) T0 ?_
        case ay813 => (intro V hSw; go_simp; try with_reducible rfl)
        try simp only [Act.put, List.setIfInBounds_toArray, List.set_cons_zero, List.set_cons_succ]
        refine wpAnyH_take (i := 13) (oi := ({ dst := some 50, op := Op.build 27 #[(0, Operand.tmp 43), (1, Operand.tmp 49)], type := 27, pos := "law.go:91", after := #[{ on := 6, ground := Ground.data }, { on := 12, ground := Ground.data }], guard := none } : Oper)) (v := ?av814) rfl (by kernel_rfl) (by kernel_rfl) (by kernel_rfl) (fun _ _ _ h => h) (Or.inl ⟨by rfl, ?ay814⟩) T0 ?_
        case ay814 => (intro V hSw; go_simp; try with_reducible rfl)
        try simp only [Act.put, List.setIfInBounds_toArray, List.set_cons_zero, List.set_cons_succ]
        refine wpAnyH_ready (rs := [14]) (by kernel_rfl) (by simp) ?_
        refine (AllReadyH.cons (o := _) rfl (fun K hK => ?_) AllReadyH.nil)
        go_simp
        have T815 := T0.alloc (by have := T0.size; omega) (.cells #[.slice Ak k ck, .slice Ad (rl - k) (ck - k)] 27)
        try go_wp2_with fail
        refine hK.out _ _ T815 (fun hS815 => ?_)
        clear hK K
        try simp only [Act.put, List.setIfInBounds_toArray, List.set_cons_zero, List.set_cons_succ]
        refine wpAnyH_ready (rs := [15]) (by kernel_rfl) (by simp) ?_
        refine (AllReadyH.cons (o := _) rfl (fun K hK => ?_) AllReadyH.nil)
        refine hstep_append_own2 rfl (.tmp 37) (.tmp 51) 35 rfl w.heap.size 27 i27 (.agg #[.slice none 0 0, .slice none 0 0]) 2 48 und35 hi27 hz27 hs27 hb27 rfl (by decide) (.slice g1 i d1) i _ rfl (World.ownsRow.alloc O1d _) ⟨_, 0, none⟩ 1 1 [.slice Ak k ck, .slice Ad (rl - k) (ck - k)] rfl rfl (show _ from new_at wr [.slice Ak k ck, .slice Ad (rl - k) (ck - k)] 27) (fun u hu => by simp at hu; rcases hu with rfl | rfl <;> rfl) (by unfold maxLen; omega) (by omega) (by have := T815.size; simp at this ⊢; omega) ?_
        intro v5 w5 own5 hg5 hm5
        have hkp := own_grown (World.ownsRow.alloc O1d _) (by have := T815.size; simp at this ⊢; omega) hg5
        have T816 := T815.trans hkp.below
        have OT := own_kept (World.ownsRow.alloc O2d _) (by decide) hkp
        obtain ⟨g5, d5, rfl⟩ := own_form own5
        clear hg5 hm5
        try go_simp
        try go_wp2_with fail
        refine hK.out _ _ T816 (fun hS816 => ?_)
        clear hK K
        try simp only [Act.put, List.setIfInBounds_toArray, List.set_cons_zero, List.set_cons_succ]
        refine wpAnyH_take (i := 16) (oi := ({ dst := some 6, op := Op.assign (Operand.tmp 52), type := 35, pos := "law.go:91", after := #[{ on := 15, ground := Ground.data }, { on := 15, ground := Ground.chain }, { on := 0, ground := Ground.phase }, { on := 1, ground := Ground.phase }, { on := 2, ground := Ground.phase }, { on := 3, ground := Ground.phase }, { on := 4, ground := Ground.phase }, { on := 5, ground := Ground.phase }, { on := 6, ground := Ground.phase }, { on := 7, ground := Ground.phase }, { on := 8, ground := Ground.phase }, { on := 9, ground := Ground.phase }, { on := 10, ground := Ground.phase }, { on := 11, ground := Ground.phase }, { on := 12, ground := Ground.phase }, { on := 13, ground := Ground.phase }, { on := 14, ground := Ground.phase }, { on := 15, ground := Ground.phase }], guard := none } : Oper)) (v := ?av817) rfl (by kernel_rfl) (by kernel_rfl) (by kernel_rfl) (fun _ _ _ h => h) (Or.inl ⟨by rfl, ?ay817⟩) T816 ?_
        case ay817 => (intro V hSw; go_simp; try with_reducible rfl)
        try simp only [Act.put, List.setIfInBounds_toArray, List.set_cons_zero, List.set_cons_succ]
        refine wpAnyH_done (by kernel_rfl) ?_ _
        go_wp2
        go_meet
        case rel => exact ⟨_, _, rfl, own5, OT, T816⟩
      obtain ⟨g6, d6, rfl, o6, o7, b6⟩ := hcut
      obtain ⟨W6, hW6⟩ : ∃ W, W = wc := ⟨_, rfl⟩
      subst hW6
      have HB6 := Lib.hid b6
      have hsz6 := b6.size
      have x6 := (b6.cell (p := ⟨b, o + i, none⟩) hbw0).trans X0.out
      have hbw6 : b < W6.heap.size := by omega
      have HO6 := Lib.hid o6
      have HO7 := Lib.hid o7
      clear x1 TD O1d O2d o6 o7 b6 hbwr
      have hszX2 := hsz6
      have O1d : W6.drew.ownsRow w.heap.size 27 2 (.slice g6 (i + 1) d6) (i + 1) (ps.flatMap mcells ++ [.slice Ak k ck, .slice Ad (rl - k) (ck - k)]) := HO6.out
      have O2d : W6.drew.ownsRow w.heap.size 32 2 (.slice g2 i d2) i (ps.flatMap mcells) := HO7.out
      go_upto_region 11 with fail
      have TD := HB6.out.drew
      have T0 := TD
      refine wp_region_held_drew (S := fun U => Below w.heap.size w U) (by kernel_rfl) T0 (fun hS0 => ?_)
      refine wpAnyH_take (i := 0) (oi := ({ dst := some 53, op := Op.move (Operand.tmp 7), type := 36, pos := "law.go:92", after := #[], guard := none } : Oper)) (v := ?av818) rfl (by kernel_rfl) (by kernel_rfl) (by kernel_rfl) (fun _ _ _ h => h) (Or.inl ⟨by rfl, ?ay818⟩) T0 ?_
      case ay818 => (intro V hSw; go_simp; try with_reducible rfl)
      try simp only [Act.put, List.setIfInBounds_toArray, List.set_cons_zero, List.set_cons_succ]
      refine wpAnyH_take (i := 1) (oi := ({ dst := some 54, op := Op.move (Operand.tmp 0), type := 43, pos := "law.go:92", after := #[], guard := none } : Oper)) (v := ?av819) rfl (by kernel_rfl) (by kernel_rfl) (by kernel_rfl) (fun _ _ _ h => h) (Or.inl ⟨by rfl, ?ay819⟩) T0 ?_
      case ay819 => (intro V hSw; go_simp; try with_reducible rfl)
      try simp only [Act.put, List.setIfInBounds_toArray, List.set_cons_zero, List.set_cons_succ]
      refine wpAnyH_take (i := 2) (oi := ({ dst := some 55, op := Op.move (Operand.tmp 8), type := 3, pos := "law.go:92", after := #[], guard := none } : Oper)) (v := ?av820) rfl (by kernel_rfl) (by kernel_rfl) (by kernel_rfl) (fun _ _ _ h => h) (Or.inl ⟨by rfl, ?ay820⟩) T0 ?_
      case ay820 => (intro V hSw; go_simp; try with_reducible rfl)
      try simp only [Act.put, List.setIfInBounds_toArray, List.set_cons_zero, List.set_cons_succ]
      refine wpAnyH_take (i := 3) (oi := ({ dst := some 56, op := Op.indexAddr 43 (Operand.tmp 54) (Operand.tmp 55), type := 0, pos := "law.go:92", after := #[{ on := 1, ground := Ground.data }, { on := 2, ground := Ground.data }], guard := none } : Oper)) (v := ?av821) rfl (by kernel_rfl) (by kernel_rfl) (by kernel_rfl) (fun _ _ _ h => h) (Or.inl ⟨by rfl, ?ay821⟩) T0 ?_
      case ay821 => (intro V hSw; go_simp; try with_reducible rfl)
      try simp only [Act.put, List.setIfInBounds_toArray, List.set_cons_zero, List.set_cons_succ]
      refine wpAnyH_take (i := 4) (oi := ({ dst := some 57, op := Op.load 23 (Operand.tmp 56), type := 23, pos := "law.go:92", after := #[{ on := 3, ground := Ground.data }], guard := none } : Oper)) (v := ?av822) rfl (by kernel_rfl) (by kernel_rfl) (by kernel_rfl) (fun _ _ _ h => h) (Or.inl ⟨by rfl, ?ay822⟩) T0 ?_
      case ay822 => (intro V hSw; have x0s := (hSw.cell (p := ⟨b, o + i, none⟩) hbw0).trans X0.out; go_simp; try with_reducible rfl)
      try simp only [Act.put, List.setIfInBounds_toArray, List.set_cons_zero, List.set_cons_succ]
      refine wpAnyH_take (i := 5) (oi := ({ dst := some 58, op := Op.move (Operand.tmp 10), type := 3, pos := "law.go:92", after := #[], guard := none } : Oper)) (v := ?av823) rfl (by kernel_rfl) (by kernel_rfl) (by kernel_rfl) (fun _ _ _ h => h) (Or.inl ⟨by rfl, ?ay823⟩) T0 ?_
      case ay823 => (intro V hSw; go_simp; try with_reducible rfl)
      try simp only [Act.put, List.setIfInBounds_toArray, List.set_cons_zero, List.set_cons_succ]
      refine wpAnyH_take (i := 6) (oi := ({ dst := some 59, op := Op.slice 23 (Operand.tmp 57) none (some (Operand.tmp 58)) none, type := 23, pos := "law.go:92", after := #[{ on := 4, ground := Ground.data }, { on := 5, ground := Ground.data }], guard := none } : Oper)) (v := ?av824) rfl (by kernel_rfl) (by kernel_rfl) (by kernel_rfl) (fun _ _ _ h => h) (Or.inl ⟨by rfl, ?ay824⟩) T0 ?_
      case ay824 => (intro V hSw; go_simp; try with_reducible rfl)
      try simp only [Act.put, List.setIfInBounds_toArray, List.set_cons_zero, List.set_cons_succ]
      refine wpAnyH_take (i := 7) (oi := ({ dst := some 60, op := Op.move (Operand.tmp 0), type := 43, pos := "law.go:92", after := #[], guard := none } : Oper)) (v := ?av825) rfl (by kernel_rfl) (by kernel_rfl) (by kernel_rfl) (fun _ _ _ h => h) (Or.inl ⟨by rfl, ?ay825⟩) T0 ?_
      case ay825 => (intro V hSw; go_simp; try with_reducible rfl)
      try simp only [Act.put, List.setIfInBounds_toArray, List.set_cons_zero, List.set_cons_succ]
      refine wpAnyH_take (i := 8) (oi := ({ dst := some 61, op := Op.move (Operand.tmp 8), type := 3, pos := "law.go:92", after := #[], guard := none } : Oper)) (v := ?av826) rfl (by kernel_rfl) (by kernel_rfl) (by kernel_rfl) (fun _ _ _ h => h) (Or.inl ⟨by rfl, ?ay826⟩) T0 ?_
      case ay826 => (intro V hSw; go_simp; try with_reducible rfl)
      try simp only [Act.put, List.setIfInBounds_toArray, List.set_cons_zero, List.set_cons_succ]
      refine wpAnyH_take (i := 9) (oi := ({ dst := some 62, op := Op.indexAddr 43 (Operand.tmp 60) (Operand.tmp 61), type := 0, pos := "law.go:92", after := #[{ on := 7, ground := Ground.data }, { on := 8, ground := Ground.data }], guard := none } : Oper)) (v := ?av827) rfl (by kernel_rfl) (by kernel_rfl) (by kernel_rfl) (fun _ _ _ h => h) (Or.inl ⟨by rfl, ?ay827⟩) T0 ?_
      case ay827 => (intro V hSw; go_simp; try with_reducible rfl)
      try simp only [Act.put, List.setIfInBounds_toArray, List.set_cons_zero, List.set_cons_succ]
      refine wpAnyH_take (i := 10) (oi := ({ dst := some 63, op := Op.load 23 (Operand.tmp 62), type := 23, pos := "law.go:92", after := #[{ on := 9, ground := Ground.data }], guard := none } : Oper)) (v := ?av828) rfl (by kernel_rfl) (by kernel_rfl) (by kernel_rfl) (fun _ _ _ h => h) (Or.inl ⟨by rfl, ?ay828⟩) T0 ?_
      case ay828 => (intro V hSw; have x0s := (hSw.cell (p := ⟨b, o + i, none⟩) hbw0).trans X0.out; go_simp; try with_reducible rfl)
      try simp only [Act.put, List.setIfInBounds_toArray, List.set_cons_zero, List.set_cons_succ]
      refine wpAnyH_take (i := 11) (oi := ({ dst := some 64, op := Op.move (Operand.tmp 10), type := 3, pos := "law.go:92", after := #[], guard := none } : Oper)) (v := ?av829) rfl (by kernel_rfl) (by kernel_rfl) (by kernel_rfl) (fun _ _ _ h => h) (Or.inl ⟨by rfl, ?ay829⟩) T0 ?_
      case ay829 => (intro V hSw; go_simp; try with_reducible rfl)
      try simp only [Act.put, List.setIfInBounds_toArray, List.set_cons_zero, List.set_cons_succ]
      refine wpAnyH_take (i := 12) (oi := ({ dst := some 65, op := Op.slice 23 (Operand.tmp 63) (some (Operand.tmp 64)) none none, type := 23, pos := "law.go:92", after := #[{ on := 10, ground := Ground.data }, { on := 11, ground := Ground.data }], guard := none } : Oper)) (v := ?av830) rfl (by kernel_rfl) (by kernel_rfl) (by kernel_rfl) (fun _ _ _ h => h) (Or.inl ⟨by rfl, ?ay830⟩) T0 ?_
      case ay830 => (intro V hSw; go_simp; try with_reducible rfl)
      try simp only [Act.put, List.setIfInBounds_toArray, List.set_cons_zero, List.set_cons_succ]
      refine wpAnyH_take (i := 13) (oi := ({ dst := some 66, op := Op.build 32 #[(0, Operand.tmp 59), (1, Operand.tmp 65)], type := 32, pos := "law.go:92", after := #[{ on := 6, ground := Ground.data }, { on := 12, ground := Ground.data }], guard := none } : Oper)) (v := ?av831) rfl (by kernel_rfl) (by kernel_rfl) (by kernel_rfl) (fun _ _ _ h => h) (Or.inl ⟨by rfl, ?ay831⟩) T0 ?_
      case ay831 => (intro V hSw; go_simp; try with_reducible rfl)
      try simp only [Act.put, List.setIfInBounds_toArray, List.set_cons_zero, List.set_cons_succ]
      refine wpAnyH_ready (rs := [14]) (by kernel_rfl) (by simp) ?_
      refine (AllReadyH.cons (o := _) rfl (fun K hK => ?_) AllReadyH.nil)
      go_simp
      have T832 := T0.alloc (by have := T0.size; omega) (.cells #[.slice Ak k ck, .slice Ad (rl - k) (ck - k)] 32)
      try go_wp2_with fail
      refine hK.out _ _ T832 (fun hS832 => ?_)
      clear hK K
      try simp only [Act.put, List.setIfInBounds_toArray, List.set_cons_zero, List.set_cons_succ]
      refine wpAnyH_ready (rs := [15]) (by kernel_rfl) (by simp) ?_
      refine (AllReadyH.cons (o := _) rfl (fun K hK => ?_) AllReadyH.nil)
      refine hstep_append_own2 rfl (.tmp 53) (.tmp 67) 36 rfl w.heap.size 32 i32 (.agg #[.slice none 0 0, .slice none 0 0]) 2 48 und36 hi32 hz32 hs32 hb32 rfl (by decide) (.slice g2 i d2) i _ rfl (World.ownsRow.alloc O2d _) ⟨_, 0, none⟩ 1 1 [.slice Ak k ck, .slice Ad (rl - k) (ck - k)] rfl rfl (show _ from new_at W6 [.slice Ak k ck, .slice Ad (rl - k) (ck - k)] 32) (fun u hu => by simp at hu; rcases hu with rfl | rfl <;> rfl) (by unfold maxLen; omega) (by omega) (by have := T832.size; simp at this ⊢; omega) ?_
      intro v5 w5 own5 hg5 hm5
      have hkp := own_grown (World.ownsRow.alloc O2d _) (by have := T832.size; simp at this ⊢; omega) hg5
      have T833 := T832.trans hkp.below
      have OT := own_kept (World.ownsRow.alloc O1d _) (by decide) hkp
      obtain ⟨g5, d5, rfl⟩ := own_form own5
      clear hg5 hm5
      try go_simp
      try go_wp2_with fail
      refine hK.out _ _ T833 (fun hS833 => ?_)
      clear hK K
      try simp only [Act.put, List.setIfInBounds_toArray, List.set_cons_zero, List.set_cons_succ]
      refine wpAnyH_take (i := 16) (oi := ({ dst := some 7, op := Op.assign (Operand.tmp 68), type := 36, pos := "law.go:92", after := #[{ on := 15, ground := Ground.data }, { on := 15, ground := Ground.chain }, { on := 0, ground := Ground.phase }, { on := 1, ground := Ground.phase }, { on := 2, ground := Ground.phase }, { on := 3, ground := Ground.phase }, { on := 4, ground := Ground.phase }, { on := 5, ground := Ground.phase }, { on := 6, ground := Ground.phase }, { on := 7, ground := Ground.phase }, { on := 8, ground := Ground.phase }, { on := 9, ground := Ground.phase }, { on := 10, ground := Ground.phase }, { on := 11, ground := Ground.phase }, { on := 12, ground := Ground.phase }, { on := 13, ground := Ground.phase }, { on := 14, ground := Ground.phase }, { on := 15, ground := Ground.phase }], guard := none } : Oper)) (v := ?av834) rfl (by kernel_rfl) (by kernel_rfl) (by kernel_rfl) (fun _ _ _ h => h) (Or.inl ⟨by rfl, ?ay834⟩) T833 ?_
      case ay834 => (intro V hSw; go_simp; try with_reducible rfl)
      try simp only [Act.put, List.setIfInBounds_toArray, List.set_cons_zero, List.set_cons_succ]
      refine wpAnyH_done (by kernel_rfl) ?_ _
      have HO8 := Lib.hid own5
      have HO9 := Lib.hid OT
      have HB8 := Lib.hid T833
      clear own5 OT
      go_wp2
      go_roundw
      case rel =>
        have e1 : (rows[i]?).getD [] = r := by rw [HX.out]; rfl
        have e2 : mk1 rows locs i = (r.take k, r.drop k) := by unfold mk1; rw [e1, HRL.out, HK.out]
        have e3 : (ps ++ [((Value.slice Ak k ck, Value.slice Ad (rl - k) (ck - k)) : Value × Value)]).flatMap mcells = ps.flatMap mcells ++ [.slice Ak k ck, .slice Ad (rl - k) (ck - k)] := by rw [List.flatMap_append]; rfl
        have kb : ∀ (v : Value) (l : List Bool), BRow B w v l → BRow B w5 v l := fun v l h => h.below HB8.out hB
        refine ⟨i + 1, ps ++ [(.slice Ak k ck, .slice Ad (rl - k) (ck - k))], by omega, by go_num, ?_, by rw [e3]; exact HO9.out, by rw [e3]; exact HO8.out, HB8.out⟩
        rw [mkM_succ, e2]
        exact MSub.snoc (HS.out.imp (fun v l h => h.keep (fun p hp => (HB8.out.cell (p := p) (by omega)).trans (HBW.out.cell (p := p) (by omega)).symm))) (kb _ _ BT.out) (kb _ _ HBD.out)
      case measure => simp [intOf]; omega
    · obtain rfl : i = n := by omega
      have hml := mkM_len rows locs i
      have HMK := Lib.hid hml
      have hend : (i : Int) < (m : Int) → ¬ (i : Int) < 5000 := fun h => by omega
      clear hml
      by_cases him : (i : Int) < (m : Int)
      · have h5 := hend him
        clear hend
        go_wp2
        go_ret2
        refine ⟨_, _, rfl, ⟨ps, HS.out.imp (fun v l h => h.more (by omega)), ?_⟩, ⟨ps, HS.out.imp (fun v l h => h.more (by omega)), ?_⟩, HBW.out⟩
        · rw [HMK.out]
          exact Row.of_own O1.out
        · rw [HMK.out]
          exact Row.of_own O2.out
      · clear hend
        go_wp2
        go_ret2
        refine ⟨_, _, rfl, ⟨ps, HS.out.imp (fun v l h => h.more (by omega)), ?_⟩, ⟨ps, HS.out.imp (fun v l h => h.more (by omega)), ?_⟩, HBW.out⟩
        · rw [HMK.out]
          exact Row.of_own O1.out
        · rw [HMK.out]
          exact Row.of_own O2.out
end Go.Proofs.Ytgepgbpjdjbelaa
