/-
  WALK of the law on a signature's parts.
-/
import Derived.Test.YtamafgpconfipaaBack
import Derived.Test.YtamafgpconfipaaFields
set_option linter.unusedVariables false
set_option linter.unusedSimpArgs false
namespace Go.Proofs.Ytamafgpconfipaa
open Go.RowKit

theorem refT_at {q : Tz} (h : okz q = true) : ((0 < q.1 ∧ q.1 ≤ 4) ∧ refT q.1 (L q.2) = true) ∨ (q.1 = 0 ∧ ((q.2.toList.isEmpty = true ∧ q.2.toList = [] ∧ refT q.1 (L q.2) = false) ∨ (q.2.toList.isEmpty = false ∧ ¬ q.2.toList = [] ∧ refT q.1 (L q.2) = true))) := by
  have h' : okT q.1 (L q.2) = true := h
  have hd := (okT_dims h').1
  have hd4 := (okT_dims h').2
  unfold refT
  rw [h', Bool.true_and]
  by_cases h0 : 0 < q.1
  · exact .inl ⟨⟨h0, hd4⟩, by rw [decide_eq_false (by omega)]; rfl⟩
  · have e : q.1 = 0 := by omega
    refine .inr ⟨e, ?_⟩
    by_cases hz : q.2.size = 0
    · refine .inl ⟨emp_of0 hz, nil_of0 hz, ?_⟩
      rw [e, size0_nil hz]; rfl
    · refine .inr ⟨emp_ofpos (by omega), ne_ofpos (by omega), ?_⟩
      have := sizepos_ne (s := q.2) (by omega)
      rw [e]
      cases hL : L q.2 with
      | nil => exact absurd hL this
      | cons c t => rfl
/-- What is returned, as the law takes it. -/
def retOf (r : Tz) (b : Bool) : Tz := if b then (0, ⟨#[]⟩) else r
theorem parts_sg {ys : List Tz} {r : Tz} {b : Bool} (h1 : ys.all okz = true) (h2 : okz r = true) (h3 : ys.length ≤ 16) :
    sgE ys (retOf r b) b = 0 ∧ sgT ys (retOf r b) b = mkB (40 :: (ys.flatMap dsz ++ 41 :: (if b then [86] else dsz r))) := by
  cases b with
  | false => exact sg_ok h1 h2 (fun h => by simp at h) h3
  | true => exact sg_ok h1 (show okz (0, ⟨#[]⟩) = true by decide) (fun _ => (show refT 0 (L ⟨#[]⟩) = false by decide)) h3
theorem TyRow.take {w : World} {ao : Option Addr} {cap : Nat} {xs : List Tz} (h : TyRow w (.slice ao xs.length cap) xs) (h16 : 16 < xs.length) : TyRow w (.slice ao 16 cap) (xs.take 16) := by
  obtain ⟨ao2, cap2, h1, h2, h3, h4⟩ := h
  simp only [Value.slice.injEq] at h1
  obtain ⟨rfl, _, rfl⟩ := h1
  have hl : (xs.take 16).length = 16 := by rw [List.length_take]; omega
  refine ⟨ao, cap, by rw [hl], by omega, h3, .inr ?_⟩
  rcases h4 with h0 | ⟨b, o, h5, h6⟩
  · rw [h0] at h16; simp at h16
  · refine ⟨b, o, h5, fun i hi => ?_⟩
    have := h6 i (by omega)
    have e : (xs.take 16)[i] = xs[i]'(by omega) := by simp
    rw [e]
    exact this
theorem row_room {w : World} {ao : Option Addr} {n cap : Nat} {xs : List Tz} (h : TyRow w (.slice ao n cap) xs) : n = xs.length ∧ n ≤ cap ∧ cap ≤ maxLen := by
  obtain ⟨ao2, cap2, h1, h2, h3, _⟩ := h
  simp only [Value.slice.injEq] at h1
  obtain ⟨_, rfl, rfl⟩ := h1
  exact ⟨rfl, h2, h3⟩
set_option maxRecDepth 1000000 in
set_option maxHeartbeats 25600000 in
theorem parts_walk (v : Value) (xs : List Tz) (rd : Int) (rn : ByteArray) (b : Bool) (w : World) (hv : TyRow w v xs) :
    Calls Try.prog 8 #[v, .agg #[.int .i64 rd, .string rn], .bool b] w fun e w' => e = .returned (.bool true) ∧ Below w.heap.size w w' := by
  obtain ⟨ao, cap, rfl, -⟩ := id hv
  have hcl : xs.length ≤ cap ∧ cap ≤ maxLen := ⟨(row_room hv).2.1, (row_room hv).2.2⟩
  obtain ⟨hc1, hc2⟩ := hcl
  have hc3 : (cap : Int) ≤ 9223372036854775807 := by unfold maxLen at hc2; omega
  clear hc2
  have HBE := Lib.hid ((Below.refl w.heap.size w).alloc (Nat.le_refl _) (.cells #[.int .i64 rd, .string rn] 23))
  have HV := Lib.hid hv
  obtain ⟨m, hm⟩ : ∃ m, xs.length = m := ⟨_, rfl⟩
  have HM := Lib.hid hm
  rw [hm] at hc1 ⊢
  have hcut : m ≤ 16 ∨ 16 < m := by omega
  clear hv hm
  go_enter Try.func8, Try.ntmps8
  go_wp2_with fail
  refine (shown_any _).mono ?_
  rintro e w1 ⟨rfl, hb⟩
  have M1 := Lib.hid (Below.keep hb (q := w.heap.size) (by simp) (heap_new w _))
  have W1 := Lib.hid (HBE.out.trans (hb.mono (by simp)))
  clear hb
  go_upto_if 25 with fail
  go_cut [0] (fun s0 wx => w1 = wx ∧ ∃ (n : Nat) (ys : List Tz), s0 = .slice ao n cap ∧ n ≤ 16 ∧ TyRow w (.slice ao n cap) ys)
  case first =>
    rcases hcut with h16 | h16
    · have h17 : (m : Int) ≤ 16 := by omega
      go_wp2
      go_meet
      exact ⟨rfl, m, xs, rfl, h16, by have := HV.out; rwa [HM.out] at this⟩
    · have h17 : (16 : Int) < (m : Int) := by omega
      have h18 : (16 : Int) ≤ (cap : Int) := by omega
      go_wp2
      go_meet
      exact ⟨rfl, 16, xs.take 16, rfl, Nat.le_refl _, HV.out.take (by rw [HM.out]; exact h16)⟩
  case rest =>
    obtain ⟨rfl, n, xs, rfl, hn16, hrow⟩ := hcut
    have hrr := row_room hrow
    have HN := Lib.hid hrr.1.symm
    have HROW := Lib.hid (show TyRow w (.slice ao xs.length cap) xs by rw [← hrr.1]; exact hrow)
    have hni : (n : Int) ≤ 16 := by omega
    clear hrow hrr
    go_wp2
    go_loopg [8, 9] n (fun g sv i wx => ∃ (k : Nat) (S : ByteArray), i = .int .i64 k ∧ sv = .string S ∧ k + g = n ∧ L S = 40 :: (xs.take k).flatMap dsz ∧ (xs.take k).all okz = true ∧ wx.heap[w.heap.size]? = some (.cells #[.int .i64 rd, .string rn] 23 (0, 0)) ∧ Below w.heap.size w wx)
    case atStart => exact ⟨0, _, rfl, rfl, by omega, rfl, by simp, M1.out, W1.out⟩
    case round =>
      obtain ⟨k, S, rfl, rfl, hkg, hS, hall, hbox, hbel⟩ := hrel
      have HS := Lib.hid hS
      have HALL := Lib.hid hall
      have HBOX := Lib.hid hbox
      have HBEL := Lib.hid hbel
      have lb := lt_of_block hbox
      have r0 : wr.cell? ⟨w.heap.size, 0, none⟩ = some (.int .i64 rd) := cells_of hbox 0
      have r1 : wr.cell? ⟨w.heap.size, 1, none⟩ = some (.string rn) := cells_of hbox 1
      have hSs : S.size ≤ 5000 := by
        have h1 := flat_len hall
        have h2 : (xs.take k).length ≤ k := List.length_take_le _ _
        rw [size_L, hS, List.length_cons]
        omega
      clear hS hall hbox hbel
      by_cases hlt : k < n
      · obtain ⟨q, p1, o1, rfl, hq1, x0, x1⟩ := row_at HROW.out HN.out HBEL.out hlt
        have HTK := Lib.hid (show xs.take (k + 1) = xs.take k ++ [q] by rw [List.take_add_one, hq1]; rfl)
        have hgg : gk - 1 < gk := by omega
        cases hok : okT q.1 (L q.2) with
        | false =>
          have CW := fun W => Lib.hid (Write_any q.1 q.2 W)
          rw [(wr_no hok).1, (wr_no hok).2] at CW
          clear hok hq1
          go_wp2_with fail
          refine (CW _).out.mono ?_
          rintro e u1 ⟨rfl, hb⟩
          have U1 := Lib.hid (HBEL.out.trans (hb.mono HBEL.out.size))
          clear hb
          go_wp2
          go_ret
          exact ⟨rfl, U1.out⟩
        | true =>
          have CW := fun W => Lib.hid (Write_any q.1 q.2 W)
          rw [(wr_ok hok).1, (wr_ok hok).2, show mkB (descT (q.1.toNat, L q.2)) = mkB (dsz q) from rfl] at CW
          have HOK := Lib.hid (show okz q = true from hok)
          have hql : (mkB (dsz q)).size ≤ 262 := by rw [size_L]; exact dsz_len HOK.out
          obtain ⟨Z, hZ⟩ : ∃ Z, mkB (dsz q) = Z := ⟨_, rfl⟩
          have HZ := Lib.hid hZ
          rw [hZ] at CW hql
          clear hZ hok hq1
          go_wp2_with fail
          refine (CW _).out.mono ?_
          rintro e u1 ⟨rfl, hb⟩
          have U1 := Lib.hid (HBEL.out.trans (hb.mono HBEL.out.size))
          have B1 := Lib.hid (Below.keep hb lb HBOX.out)
          clear hb
          go_wp2
          go_roundg (gk - 1)
          case measure => exact hgg
          case rel => exact ⟨k + 1, _, by go_num, rfl, by omega, by rw [L_append, HS.out, ← HZ.out, L_mkB, HTK.out]; simp, by rw [HTK.out, List.all_append, HALL.out]; simp [HOK.out], B1.out, U1.out⟩
      · have hX : xs.take k = xs := List.take_of_length_le (by rw [HN.out]; omega)
        have HSX := Lib.hid (show L S = 40 :: xs.flatMap dsz by rw [HS.out, hX])
        have HA := Lib.hid (show xs.all okz = true by have := HALL.out; rwa [hX] at this)
        clear hX
        cases hr : okT rd (L rn) with
        | false =>
          have CW := fun W => Lib.hid (Write_any rd rn W)
          rw [(wr_no hr).1, (wr_no hr).2] at CW
          clear hr
          go_wp2_with fail
          refine (CW _).out.mono ?_
          rintro e u1 ⟨rfl, hb⟩
          have U1 := Lib.hid (HBEL.out.trans (hb.mono HBEL.out.size))
          clear hb
          go_wp2
          go_ret
          exact ⟨rfl, U1.out⟩
        | true =>
          have CW := fun W => Lib.hid (Write_any rd rn W)
          rw [(wr_ok hr).1, (wr_ok hr).2, show mkB (descT (rd.toNat, L rn)) = mkB (dsz (rd, rn)) from rfl] at CW
          have HR := Lib.hid (show okz (rd, rn) = true from hr)
          have hrl : (mkB (dsz (rd, rn))).size ≤ 262 := by rw [size_L]; exact dsz_len HR.out
          obtain ⟨Z, hZ⟩ : ∃ Z, mkB (dsz (rd, rn)) = Z := ⟨_, rfl⟩
          have HZ := Lib.hid hZ
          rw [hZ] at CW hrl
          clear hZ hr
          cases b
          · have HG : Hid (sgE xs (rd, rn) false = 0 ∧ sgT xs (rd, rn) false = S ++ ⟨#[41]⟩ ++ Z) := by
              have h := parts_sg (r := (rd, rn)) (b := false) HA.out HR.out (by rw [HN.out]; exact hn16)
              refine ⟨h.1, h.2.trans (eq_mkB ?_).symm⟩
              rw [L_append, L_append, HSX.out, ← HZ.out, L_mkB]; show 40 :: xs.flatMap dsz ++ [41] ++ dsz (rd, rn) = 40 :: (xs.flatMap dsz ++ 41 :: dsz (rd, rn)); simp
            have CS := fun W (h : TyRow W (.slice ao n cap) xs) => Lib.hid (Sign_any (.slice ao n cap) xs rd rn false W h (by rw [HN.out]; omega))
            rw [HG.out.1, HG.out.2] at CS
            have CM := fun W => Lib.hid (sign_meth xs rd rn false W HG.out.1)
            rw [HG.out.2] at CM
            go_wp2_with fail
            refine (CW _).out.mono ?_
            rintro e u1 ⟨rfl, hb⟩
            have U1 := Lib.hid (HBEL.out.trans (hb.mono HBEL.out.size))
            have B1 := Lib.hid (Below.keep hb lb HBOX.out)
            have lu1 := lt_of_block B1.out
            have s0 : u1.cell? ⟨w.heap.size, 0, none⟩ = some (.int .i64 rd) := cells_of B1.out 0
            have s1 : u1.cell? ⟨w.heap.size, 1, none⟩ = some (.string rn) := cells_of B1.out 1
            clear hb r0 r1
            go_wp2_with fail
            refine (CS _ ((show TyRow u1 (.slice ao n cap) xs by have := HROW.out.below U1.out; rwa [HN.out] at this).alloc _)).out.mono ?_
            rintro e u2 ⟨rfl, hb⟩
            have M2 := Lib.hid (Below.keep hb (by simp) (heap_new u1 (.cells #[.slice ao n cap, .int .i64 rd, .string rn, .bool false] 36)))
            have U2 := Lib.hid ((U1.out.alloc U1.out.size (.cells #[.slice ao n cap, .int .i64 rd, .string rn, .bool false] 36)).trans (hb.mono (by have := U1.out.size; simp; omega)))
            clear hb s0 s1
            go_wp2_with fail
            refine (CM _).out.mono ?_
            rintro e u3 ⟨v2, rfl, row2, hb⟩
            obtain ⟨o2, c2, rfl, -⟩ := id row2
            rw [HN.out] at row2 ⊢
            have M3 := Lib.hid (Below.keep hb (lt_of_block M2.out) M2.out)
            have U3 := Lib.hid (U2.out.trans (hb.mono U2.out.size))
            have ROW2 := Lib.hid (show TyRow u3 (.slice o2 xs.length c2) xs by rw [HN.out]; exact row2)
            have lm : u1.heap.size < u3.heap.size := lt_of_block M3.out
            have mm1 : u3.cell? ⟨u1.heap.size, 1, none⟩ = some (.int .i64 rd) := cells_of M3.out 1
            have mm2 : u3.cell? ⟨u1.heap.size, 2, none⟩ = some (.string rn) := cells_of M3.out 2
            clear row2 hb
            go_wp2
            have N4 := Lib.hid (heap_new u3 (.cells #[.slice o2 n c2, .int .i64 rd, .string rn, .bool false] 36))
            have U4 := Lib.hid (U3.out.alloc U3.out.size (.cells #[.slice o2 n c2, .int .i64 rd, .string rn, .bool false] 36))
            have ROW4 := Lib.hid (ROW2.out.alloc (.cells #[.slice o2 n c2, .int .i64 rd, .string rn, .bool false] 36))
            have ROWL := Lib.hid (show TyRow (u3.alloc (.cells #[.slice o2 n c2, .int .i64 rd, .string rn, .bool false] 36)) (.slice ao xs.length cap) xs by exact (HROW.out.below U3.out).alloc _)
            generalize hwn : u3.alloc (.cells #[.slice o2 n c2, .int .i64 rd, .string rn, .bool false] 36) = wn at *
            generalize hNe : u3.heap.size = N at *
            have lN : N < wn.heap.size := lt_of_block N4.out
            clear hwn hNe mm1 mm2
            go_loopg [19] n (fun g i wx => ∃ k : Nat, i = .int .i64 k ∧ k + g = n ∧ Below wn.heap.size wn wx)
            case atStart => exact ⟨0, rfl, by omega, Below.refl _ _⟩
            case round =>
              obtain ⟨k2, rfl, hkg2, hbel2⟩ := hrel
              have HBEL2 := Lib.hid hbel2
              have N5 := Below.keep hbel2 lN N4.out
              have n0 : wr.cell? ⟨N, 0, none⟩ = some (.slice o2 n c2) := cells_of N5 0
              by_cases hlt2 : k2 < n
              · obtain ⟨q, p1, o1, ho1, hq1, x0, x1⟩ := row_at ROWL.out HN.out hbel2 hlt2
                obtain ⟨q', p2, o3, ho2, hq2, y0, y1⟩ := row_at ROW4.out HN.out hbel2 hlt2
                obtain rfl : q = q' := by rw [hq1] at hq2; simpa using hq2
                have hqo : okz q = true := by
                  have := HA.out
                  rw [List.all_eq_true] at this
                  exact this _ (List.mem_of_getElem? hq1)
                have hrf := refT_at hqo
                have CI := fun W => Lib.hid (IsRef_any q.1 q.2 W)
                have i0 : (0 : Int) ≤ (k2 : Int) := by omega
                have i1 : (k2 : Int) < (n : Int) := by omega
                have hgg : gk - 1 < gk := by omega
                have e1 : p1 < wr.heap.size := World.block_lt_of_cell? wr _ x0
                have e2 : p2 < wr.heap.size := World.block_lt_of_cell? wr _ y0
                have e3 : N < wr.heap.size := lt_of_block N5
                have hlw : wn.heap.size ≤ wr.heap.size := hbel2.size
                subst ho1 ho2
                have HBW := Lib.hid hbel2
                generalize hrb : refT q.1 (L q.2) = rb at *
                obtain ⟨qd, qn⟩ := q
                simp only at hrf x0 x1 y0 y1 CI
                clear hq1 hq2 hqo hrb N5 hbel2
                rcases hrf with ⟨g1, rfl⟩ | ⟨rfl, ⟨g1, g2, rfl⟩ | ⟨g1, g2, rfl⟩⟩
                · obtain rfl | rfl | rfl | rfl : qd = 1 ∨ qd = 2 ∨ qd = 3 ∨ qd = 4 := by omega
                  · go_wp2_with fail
                    refine wp_region_held_drew (S := (fun w' => w'.cell? ⟨N, 0, none⟩ = some (.slice (some ⟨p2, o3, none⟩) n c2) ∧ w'.cell? ⟨p1, o1 + k2 * 2, none⟩ = some (.int .i64 1) ∧ w'.cell? ⟨p1, o1 + k2 * 2 + 1, none⟩ = some (.string qn) ∧ w'.cell? ⟨p2, o3 + k2 * 2, none⟩ = some (.int .i64 1) ∧ w'.cell? ⟨p2, o3 + k2 * 2 + 1, none⟩ = some (.string qn) ∧ wr.heap.size ≤ w'.heap.size ∧ Below wr.heap.size wr w')) (by kernel_rfl) ⟨n0, x0, x1, y0, y1, Nat.le_refl _, (Below.refl _ _).drew⟩ (fun hHeld => ?_)
                    refine wpAnyH_take (i := 0) (oi := ({ dst := some 115, op := Op.fieldAddr 36 (Operand.tmp 17) 0, type := 0, pos := "more.go:60", after := #[], guard := none } : Oper)) (v := ?v1x0) rfl (by kernel_rfl) (by kernel_rfl) (by kernel_rfl) (fun _ _ _ h => h) (Or.inl ⟨by rfl, ?hy1x0⟩) hHeld ?_
                    case hy1x0 => ((intro w hSw); (try dsimp only at hSw); go_simp; try with_reducible rfl)
                    try simp only [Act.put, List.setIfInBounds_toArray, List.set_cons_zero, List.set_cons_succ]
                    refine wpAnyH_take (i := 1) (oi := ({ dst := some 116, op := Op.load 34 (Operand.tmp 115), type := 34, pos := "more.go:60", after := #[{ on := 0, ground := Ground.data }], guard := none } : Oper)) (v := ?v1x1) rfl (by kernel_rfl) (by kernel_rfl) (by kernel_rfl) (fun _ _ _ h => h) (Or.inl ⟨by rfl, ?hy1x1⟩) hHeld ?_
                    case hy1x1 => ((intro w hSw); (try dsimp only at hSw); go_simp; try with_reducible rfl)
                    try simp only [Act.put, List.setIfInBounds_toArray, List.set_cons_zero, List.set_cons_succ]
                    refine wpAnyH_take (i := 2) (oi := ({ dst := some 117, op := Op.move (Operand.tmp 19), type := 3, pos := "more.go:60", after := #[], guard := none } : Oper)) (v := ?v1x2) rfl (by kernel_rfl) (by kernel_rfl) (by kernel_rfl) (fun _ _ _ h => h) (Or.inl ⟨by rfl, ?hy1x2⟩) hHeld ?_
                    case hy1x2 => ((intro w hSw); (try dsimp only at hSw); go_simp; try with_reducible rfl)
                    try simp only [Act.put, List.setIfInBounds_toArray, List.set_cons_zero, List.set_cons_succ]
                    refine wpAnyH_take (i := 3) (oi := ({ dst := some 118, op := Op.indexAddr 34 (Operand.tmp 116) (Operand.tmp 117), type := 0, pos := "more.go:60", after := #[{ on := 1, ground := Ground.data }, { on := 2, ground := Ground.data }], guard := none } : Oper)) (v := ?v1x3) rfl (by kernel_rfl) (by kernel_rfl) (by kernel_rfl) (fun _ _ _ h => h) (Or.inl ⟨by rfl, ?hy1x3⟩) hHeld ?_
                    case hy1x3 => ((intro w hSw); (try dsimp only at hSw); go_simp; try with_reducible rfl)
                    try simp only [Act.put, List.setIfInBounds_toArray, List.set_cons_zero, List.set_cons_succ]
                    refine wpAnyH_take (i := 4) (oi := ({ dst := some 119, op := Op.load 23 (Operand.tmp 118), type := 23, pos := "more.go:60", after := #[{ on := 3, ground := Ground.data }], guard := none } : Oper)) (v := ?v1x4) rfl (by kernel_rfl) (by kernel_rfl) (by kernel_rfl) (fun _ _ _ h => h) (Or.inl ⟨by rfl, ?hy1x4⟩) hHeld ?_
                    case hy1x4 => ((intro w hSw); (try dsimp only at hSw); go_simp; try with_reducible rfl)
                    try simp only [Act.put, List.setIfInBounds_toArray, List.set_cons_zero, List.set_cons_succ]
                    refine wpAnyH_take (i := 5) (oi := ({ dst := some 120, op := Op.move (Operand.tmp 0), type := 34, pos := "more.go:60", after := #[], guard := none } : Oper)) (v := ?v1x5) rfl (by kernel_rfl) (by kernel_rfl) (by kernel_rfl) (fun _ _ _ h => h) (Or.inl ⟨by rfl, ?hy1x5⟩) hHeld ?_
                    case hy1x5 => ((intro w hSw); (try dsimp only at hSw); go_simp; try with_reducible rfl)
                    try simp only [Act.put, List.setIfInBounds_toArray, List.set_cons_zero, List.set_cons_succ]
                    refine wpAnyH_take (i := 6) (oi := ({ dst := some 121, op := Op.move (Operand.tmp 19), type := 3, pos := "more.go:60", after := #[], guard := none } : Oper)) (v := ?v1x6) rfl (by kernel_rfl) (by kernel_rfl) (by kernel_rfl) (fun _ _ _ h => h) (Or.inl ⟨by rfl, ?hy1x6⟩) hHeld ?_
                    case hy1x6 => ((intro w hSw); (try dsimp only at hSw); go_simp; try with_reducible rfl)
                    try simp only [Act.put, List.setIfInBounds_toArray, List.set_cons_zero, List.set_cons_succ]
                    refine wpAnyH_take (i := 7) (oi := ({ dst := some 122, op := Op.indexAddr 34 (Operand.tmp 120) (Operand.tmp 121), type := 0, pos := "more.go:60", after := #[{ on := 5, ground := Ground.data }, { on := 6, ground := Ground.data }], guard := none } : Oper)) (v := ?v1x7) rfl (by kernel_rfl) (by kernel_rfl) (by kernel_rfl) (fun _ _ _ h => h) (Or.inl ⟨by rfl, ?hy1x7⟩) hHeld ?_
                    case hy1x7 => ((intro w hSw); (try dsimp only at hSw); go_simp; try with_reducible rfl)
                    try simp only [Act.put, List.setIfInBounds_toArray, List.set_cons_zero, List.set_cons_succ]
                    refine wpAnyH_take (i := 8) (oi := ({ dst := some 123, op := Op.load 23 (Operand.tmp 122), type := 23, pos := "more.go:60", after := #[{ on := 7, ground := Ground.data }], guard := none } : Oper)) (v := ?v1x8) rfl (by kernel_rfl) (by kernel_rfl) (by kernel_rfl) (fun _ _ _ h => h) (Or.inl ⟨by rfl, ?hy1x8⟩) hHeld ?_
                    case hy1x8 => ((intro w hSw); (try dsimp only at hSw); go_simp; try with_reducible rfl)
                    try simp only [Act.put, List.setIfInBounds_toArray, List.set_cons_zero, List.set_cons_succ]
                    refine wpAnyH_take (i := 9) (oi := ({ dst := some 124, op := Op.binOp BinOp.neq 23 (Operand.tmp 119) (Operand.tmp 123) 23, type := 4, pos := "more.go:60", after := #[{ on := 4, ground := Ground.data }, { on := 8, ground := Ground.data }], guard := none } : Oper)) (v := ?v1x9) rfl (by kernel_rfl) (by kernel_rfl) (by kernel_rfl) (fun _ _ _ h => h) (Or.inl ⟨by rfl, ?hy1x9⟩) hHeld ?_
                    case hy1x9 => ((intro w hSw); (try dsimp only at hSw); go_simp; try with_reducible rfl)
                    try simp only [Act.put, List.setIfInBounds_toArray, List.set_cons_zero, List.set_cons_succ]
                    refine wpAnyH_take (i := 10) (oi := ({ dst := some 125, op := Op.move (Operand.tmp 124), type := 4, pos := "more.go:60", after := #[{ on := 9, ground := Ground.data }], guard := none } : Oper)) (v := ?v1x10) rfl (by kernel_rfl) (by kernel_rfl) (by kernel_rfl) (fun _ _ _ h => h) (Or.inl ⟨by rfl, ?hy1x10⟩) hHeld ?_
                    case hy1x10 => ((intro w hSw); (try dsimp only at hSw); go_simp; try with_reducible rfl)
                    try simp only [Act.put, List.setIfInBounds_toArray, List.set_cons_zero, List.set_cons_succ]
                    refine wpAnyH_take (i := 11) (oi := ({ dst := some 126, op := Op.move (Operand.tmp 0), type := 34, pos := "more.go:60", after := #[{ on := 10, ground := Ground.guard }], guard := some (10, false) } : Oper)) (v := ?v1x11) rfl (by kernel_rfl) (by kernel_rfl) (by kernel_rfl) (fun _ _ _ h => h) (Or.inl ⟨by rfl, ?hy1x11⟩) hHeld ?_
                    case hy1x11 => ((intro w hSw); (try dsimp only at hSw); go_simp; try with_reducible rfl)
                    try simp only [Act.put, List.setIfInBounds_toArray, List.set_cons_zero, List.set_cons_succ]
                    refine wpAnyH_take (i := 12) (oi := ({ dst := some 127, op := Op.move (Operand.tmp 19), type := 3, pos := "more.go:60", after := #[{ on := 10, ground := Ground.guard }], guard := some (10, false) } : Oper)) (v := ?v1x12) rfl (by kernel_rfl) (by kernel_rfl) (by kernel_rfl) (fun _ _ _ h => h) (Or.inl ⟨by rfl, ?hy1x12⟩) hHeld ?_
                    case hy1x12 => ((intro w hSw); (try dsimp only at hSw); go_simp; try with_reducible rfl)
                    try simp only [Act.put, List.setIfInBounds_toArray, List.set_cons_zero, List.set_cons_succ]
                    refine wpAnyH_take (i := 13) (oi := ({ dst := some 128, op := Op.indexAddr 34 (Operand.tmp 126) (Operand.tmp 127), type := 0, pos := "more.go:60", after := #[{ on := 11, ground := Ground.data }, { on := 12, ground := Ground.data }, { on := 10, ground := Ground.guard }], guard := some (10, false) } : Oper)) (v := ?v1x13) rfl (by kernel_rfl) (by kernel_rfl) (by kernel_rfl) (fun _ _ _ h => h) (Or.inl ⟨by rfl, ?hy1x13⟩) hHeld ?_
                    case hy1x13 => ((intro w hSw); (try dsimp only at hSw); go_simp; try with_reducible rfl)
                    try simp only [Act.put, List.setIfInBounds_toArray, List.set_cons_zero, List.set_cons_succ]
                    refine wpAnyH_take (i := 14) (oi := ({ dst := some 129, op := Op.load 23 (Operand.tmp 128), type := 23, pos := "more.go:60", after := #[{ on := 13, ground := Ground.data }, { on := 10, ground := Ground.guard }], guard := some (10, false) } : Oper)) (v := ?v1x14) rfl (by kernel_rfl) (by kernel_rfl) (by kernel_rfl) (fun _ _ _ h => h) (Or.inl ⟨by rfl, ?hy1x14⟩) hHeld ?_
                    case hy1x14 => ((intro w hSw); (try dsimp only at hSw); go_simp; try with_reducible rfl)
                    try simp only [Act.put, List.setIfInBounds_toArray, List.set_cons_zero, List.set_cons_succ]
                    refine wpAnyH_take (i := 16) (oi := ({ dst := some 131, op := Op.move (Operand.tmp 0), type := 34, pos := "more.go:60", after := #[{ on := 10, ground := Ground.guard }], guard := some (10, false) } : Oper)) (v := ?v1x16) rfl (by kernel_rfl) (by kernel_rfl) (by kernel_rfl) (fun _ _ _ h => h) (Or.inl ⟨by rfl, ?hy1x16⟩) hHeld ?_
                    case hy1x16 => ((intro w hSw); (try dsimp only at hSw); go_simp; try with_reducible rfl)
                    try simp only [Act.put, List.setIfInBounds_toArray, List.set_cons_zero, List.set_cons_succ]
                    refine wpAnyH_take (i := 17) (oi := ({ dst := some 132, op := Op.move (Operand.tmp 19), type := 3, pos := "more.go:60", after := #[{ on := 10, ground := Ground.guard }], guard := some (10, false) } : Oper)) (v := ?v1x17) rfl (by kernel_rfl) (by kernel_rfl) (by kernel_rfl) (fun _ _ _ h => h) (Or.inl ⟨by rfl, ?hy1x17⟩) hHeld ?_
                    case hy1x17 => ((intro w hSw); (try dsimp only at hSw); go_simp; try with_reducible rfl)
                    try simp only [Act.put, List.setIfInBounds_toArray, List.set_cons_zero, List.set_cons_succ]
                    refine wpAnyH_take (i := 18) (oi := ({ dst := some 133, op := Op.indexAddr 34 (Operand.tmp 131) (Operand.tmp 132), type := 0, pos := "more.go:60", after := #[{ on := 16, ground := Ground.data }, { on := 17, ground := Ground.data }, { on := 10, ground := Ground.guard }], guard := some (10, false) } : Oper)) (v := ?v1x18) rfl (by kernel_rfl) (by kernel_rfl) (by kernel_rfl) (fun _ _ _ h => h) (Or.inl ⟨by rfl, ?hy1x18⟩) hHeld ?_
                    case hy1x18 => ((intro w hSw); (try dsimp only at hSw); go_simp; try with_reducible rfl)
                    try simp only [Act.put, List.setIfInBounds_toArray, List.set_cons_zero, List.set_cons_succ]
                    refine wpAnyH_take (i := 19) (oi := ({ dst := some 134, op := Op.fieldAddr 23 (Operand.tmp 133) 0, type := 0, pos := "more.go:60", after := #[{ on := 18, ground := Ground.data }, { on := 10, ground := Ground.guard }], guard := some (10, false) } : Oper)) (v := ?v1x19) rfl (by kernel_rfl) (by kernel_rfl) (by kernel_rfl) (fun _ _ _ h => h) (Or.inl ⟨by rfl, ?hy1x19⟩) hHeld ?_
                    case hy1x19 => ((intro w hSw); (try dsimp only at hSw); go_simp; try with_reducible rfl)
                    try simp only [Act.put, List.setIfInBounds_toArray, List.set_cons_zero, List.set_cons_succ]
                    refine wpAnyH_take (i := 20) (oi := ({ dst := some 135, op := Op.load 3 (Operand.tmp 134), type := 3, pos := "more.go:60", after := #[{ on := 19, ground := Ground.data }, { on := 10, ground := Ground.guard }], guard := some (10, false) } : Oper)) (v := ?v1x20) rfl (by kernel_rfl) (by kernel_rfl) (by kernel_rfl) (fun _ _ _ h => h) (Or.inl ⟨by rfl, ?hy1x20⟩) hHeld ?_
                    case hy1x20 => ((intro w hSw); (try dsimp only at hSw); go_simp; try with_reducible rfl)
                    try simp only [Act.put, List.setIfInBounds_toArray, List.set_cons_zero, List.set_cons_succ]
                    refine wpAnyH_take (i := 21) (oi := ({ dst := some 136, op := Op.binOp BinOp.gtr 3 (Operand.tmp 135) (Operand.const (Value.int IntKind.i64 0)) 3, type := 4, pos := "more.go:60", after := #[{ on := 20, ground := Ground.data }, { on := 10, ground := Ground.guard }], guard := some (10, false) } : Oper)) (v := ?v1x21) rfl (by kernel_rfl) (by kernel_rfl) (by kernel_rfl) (fun _ _ _ h => h) (Or.inl ⟨by rfl, ?hy1x21⟩) hHeld ?_
                    case hy1x21 => ((intro w hSw); (try dsimp only at hSw); go_simp; try with_reducible rfl)
                    try simp only [Act.put, List.setIfInBounds_toArray, List.set_cons_zero, List.set_cons_succ]
                    refine wpAnyH_ready (rs := [15]) (by kernel_rfl) (by simp) ?_
                    refine AllReadyH.cons (o := ({ dst := some 130, op := Op.call { callee := Callee.value (Operand.func 18), args := #[Operand.tmp 129], argTypes := #[23] }, type := 4, pos := "more.go:60", after := #[{ on := 14, ground := Ground.data }, { on := 10, ground := Ground.chain }, { on := 10, ground := Ground.guard }], guard := some (10, false) } : Oper)) rfl (fun K hK => ?_) AllReadyH.nil
                    go_simp
                    go_at_call 18
                    refine (CI _).out.mono ?_
                    rintro e wi ⟨rfl, hb⟩
                    try go_wp2_with fail
                    refine hK.out _ _ ?_ (fun hHeld2 => ?_)
                    · try dsimp only
                      try dsimp only at hHeld
                      go_split_ands
                      refine ⟨?_, ?_, ?_, ?_, ?_, ?_, ?_⟩
                      all_goals first
                        | exact keepc hb (B := wr.heap.size) (by assumption) (by assumption) (by assumption)
                        | exact Nat.le_trans (by assumption) hb.size
                        | exact Below.link (by assumption) hb
                    clear hK K hHeld
                    try simp only [Act.put, List.setIfInBounds_toArray, List.set_cons_zero, List.set_cons_succ]
                    refine wpAnyH_take (i := 22) (oi := ({ dst := some 137, op := Op.move (Operand.tmp 136), type := 4, pos := "more.go:60", after := #[{ on := 21, ground := Ground.data }, { on := 15, ground := Ground.chain }, { on := 10, ground := Ground.guard }], guard := some (10, false) } : Oper)) (v := ?v1x22) rfl (by kernel_rfl) (by kernel_rfl) (by kernel_rfl) (fun _ _ _ h => h) (Or.inl ⟨by rfl, ?hy1x22⟩) hHeld2 ?_
                    case hy1x22 => ((intro w hSw); (try dsimp only at hSw); go_simp; try with_reducible rfl)
                    try simp only [Act.put, List.setIfInBounds_toArray, List.set_cons_zero, List.set_cons_succ]
                    refine wpAnyH_take (i := 23) (oi := ({ dst := some 138, op := Op.move (Operand.tmp 0), type := 34, pos := "more.go:60", after := #[{ on := 22, ground := Ground.guard }], guard := some (22, false) } : Oper)) (v := undef) rfl (by kernel_rfl) (by kernel_rfl) (by kernel_rfl) (fun _ _ _ h => h) (Or.inr ⟨by rfl, rfl⟩) hHeld2 ?_
                    try simp only [Act.put, List.setIfInBounds_toArray, List.set_cons_zero, List.set_cons_succ]
                    refine wpAnyH_take (i := 24) (oi := ({ dst := some 139, op := Op.move (Operand.tmp 19), type := 3, pos := "more.go:60", after := #[{ on := 22, ground := Ground.guard }], guard := some (22, false) } : Oper)) (v := undef) rfl (by kernel_rfl) (by kernel_rfl) (by kernel_rfl) (fun _ _ _ h => h) (Or.inr ⟨by rfl, rfl⟩) hHeld2 ?_
                    try simp only [Act.put, List.setIfInBounds_toArray, List.set_cons_zero, List.set_cons_succ]
                    refine wpAnyH_take (i := 25) (oi := ({ dst := some 140, op := Op.indexAddr 34 (Operand.tmp 138) (Operand.tmp 139), type := 0, pos := "more.go:60", after := #[{ on := 23, ground := Ground.data }, { on := 24, ground := Ground.data }, { on := 22, ground := Ground.guard }], guard := some (22, false) } : Oper)) (v := undef) rfl (by kernel_rfl) (by kernel_rfl) (by kernel_rfl) (fun _ _ _ h => h) (Or.inr ⟨by rfl, rfl⟩) hHeld2 ?_
                    try simp only [Act.put, List.setIfInBounds_toArray, List.set_cons_zero, List.set_cons_succ]
                    refine wpAnyH_take (i := 26) (oi := ({ dst := some 141, op := Op.fieldAddr 23 (Operand.tmp 140) 1, type := 0, pos := "more.go:60", after := #[{ on := 25, ground := Ground.data }, { on := 22, ground := Ground.guard }], guard := some (22, false) } : Oper)) (v := undef) rfl (by kernel_rfl) (by kernel_rfl) (by kernel_rfl) (fun _ _ _ h => h) (Or.inr ⟨by rfl, rfl⟩) hHeld2 ?_
                    try simp only [Act.put, List.setIfInBounds_toArray, List.set_cons_zero, List.set_cons_succ]
                    refine wpAnyH_take (i := 27) (oi := ({ dst := some 142, op := Op.load 9 (Operand.tmp 141), type := 9, pos := "more.go:60", after := #[{ on := 26, ground := Ground.data }, { on := 22, ground := Ground.guard }], guard := some (22, false) } : Oper)) (v := undef) rfl (by kernel_rfl) (by kernel_rfl) (by kernel_rfl) (fun _ _ _ h => h) (Or.inr ⟨by rfl, rfl⟩) hHeld2 ?_
                    try simp only [Act.put, List.setIfInBounds_toArray, List.set_cons_zero, List.set_cons_succ]
                    refine wpAnyH_take (i := 28) (oi := ({ dst := some 143, op := Op.binOp BinOp.neq 9 (Operand.tmp 142) (Operand.const (Value.string { data := #[] })) 9, type := 4, pos := "more.go:60", after := #[{ on := 27, ground := Ground.data }, { on := 22, ground := Ground.guard }], guard := some (22, false) } : Oper)) (v := undef) rfl (by kernel_rfl) (by kernel_rfl) (by kernel_rfl) (fun _ _ _ h => h) (Or.inr ⟨by rfl, rfl⟩) hHeld2 ?_
                    try simp only [Act.put, List.setIfInBounds_toArray, List.set_cons_zero, List.set_cons_succ]
                    refine wpAnyH_take (i := 29) (oi := ({ dst := some 144, op := Op.pick (Operand.tmp 137) (Operand.const (Value.bool true)) (Operand.tmp 143), type := 4, pos := "more.go:60", after := #[{ on := 22, ground := Ground.data }, { on := 28, ground := Ground.data }, { on := 10, ground := Ground.guard }], guard := some (10, false) } : Oper)) (v := ?v1x29) rfl (by kernel_rfl) (by kernel_rfl) (by kernel_rfl) (fun _ _ _ h => h) (Or.inl ⟨by rfl, ?hy1x29⟩) hHeld2 ?_
                    case hy1x29 => ((intro w hSw); (try dsimp only at hSw); go_simp; try with_reducible rfl)
                    try simp only [Act.put, List.setIfInBounds_toArray, List.set_cons_zero, List.set_cons_succ]
                    refine wpAnyH_take (i := 30) (oi := ({ dst := some 145, op := Op.binOp BinOp.neq 4 (Operand.tmp 130) (Operand.tmp 144) 4, type := 4, pos := "more.go:60", after := #[{ on := 15, ground := Ground.data }, { on := 29, ground := Ground.data }, { on := 10, ground := Ground.guard }], guard := some (10, false) } : Oper)) (v := ?v1x30) rfl (by kernel_rfl) (by kernel_rfl) (by kernel_rfl) (fun _ _ _ h => h) (Or.inl ⟨by rfl, ?hy1x30⟩) hHeld2 ?_
                    case hy1x30 => ((intro w hSw); (try dsimp only at hSw); go_simp; try with_reducible rfl)
                    try simp only [Act.put, List.setIfInBounds_toArray, List.set_cons_zero, List.set_cons_succ]
                    refine wpAnyH_take (i := 31) (oi := ({ dst := some 146, op := Op.pick (Operand.tmp 125) (Operand.const (Value.bool true)) (Operand.tmp 145), type := 4, pos := "more.go:60", after := #[{ on := 10, ground := Ground.data }, { on := 30, ground := Ground.data }], guard := none } : Oper)) (v := ?v1x31) rfl (by kernel_rfl) (by kernel_rfl) (by kernel_rfl) (fun _ _ _ h => h) (Or.inl ⟨by rfl, ?hy1x31⟩) hHeld2 ?_
                    case hy1x31 => ((intro w hSw); (try dsimp only at hSw); go_simp; try with_reducible rfl)
                    try simp only [Act.put, List.setIfInBounds_toArray, List.set_cons_zero, List.set_cons_succ]
                    refine wpAnyH_done (by kernel_rfl) ?_ _
                    try dsimp only at hHeld2
                    go_split_ands
                    go_wp2
                    go_roundg (gk - 1)
                    case measure => exact hgg
                    case rel => exact ⟨k2 + 1, by go_num, by omega, Below.link HBW.out (by assumption)⟩
                  · go_wp2_with fail
                    refine wp_region_held_drew (S := (fun w' => w'.cell? ⟨N, 0, none⟩ = some (.slice (some ⟨p2, o3, none⟩) n c2) ∧ w'.cell? ⟨p1, o1 + k2 * 2, none⟩ = some (.int .i64 2) ∧ w'.cell? ⟨p1, o1 + k2 * 2 + 1, none⟩ = some (.string qn) ∧ w'.cell? ⟨p2, o3 + k2 * 2, none⟩ = some (.int .i64 2) ∧ w'.cell? ⟨p2, o3 + k2 * 2 + 1, none⟩ = some (.string qn) ∧ wr.heap.size ≤ w'.heap.size ∧ Below wr.heap.size wr w')) (by kernel_rfl) ⟨n0, x0, x1, y0, y1, Nat.le_refl _, (Below.refl _ _).drew⟩ (fun hHeld => ?_)
                    refine wpAnyH_take (i := 0) (oi := ({ dst := some 115, op := Op.fieldAddr 36 (Operand.tmp 17) 0, type := 0, pos := "more.go:60", after := #[], guard := none } : Oper)) (v := ?v2x0) rfl (by kernel_rfl) (by kernel_rfl) (by kernel_rfl) (fun _ _ _ h => h) (Or.inl ⟨by rfl, ?hy2x0⟩) hHeld ?_
                    case hy2x0 => ((intro w hSw); (try dsimp only at hSw); go_simp; try with_reducible rfl)
                    try simp only [Act.put, List.setIfInBounds_toArray, List.set_cons_zero, List.set_cons_succ]
                    refine wpAnyH_take (i := 1) (oi := ({ dst := some 116, op := Op.load 34 (Operand.tmp 115), type := 34, pos := "more.go:60", after := #[{ on := 0, ground := Ground.data }], guard := none } : Oper)) (v := ?v2x1) rfl (by kernel_rfl) (by kernel_rfl) (by kernel_rfl) (fun _ _ _ h => h) (Or.inl ⟨by rfl, ?hy2x1⟩) hHeld ?_
                    case hy2x1 => ((intro w hSw); (try dsimp only at hSw); go_simp; try with_reducible rfl)
                    try simp only [Act.put, List.setIfInBounds_toArray, List.set_cons_zero, List.set_cons_succ]
                    refine wpAnyH_take (i := 2) (oi := ({ dst := some 117, op := Op.move (Operand.tmp 19), type := 3, pos := "more.go:60", after := #[], guard := none } : Oper)) (v := ?v2x2) rfl (by kernel_rfl) (by kernel_rfl) (by kernel_rfl) (fun _ _ _ h => h) (Or.inl ⟨by rfl, ?hy2x2⟩) hHeld ?_
                    case hy2x2 => ((intro w hSw); (try dsimp only at hSw); go_simp; try with_reducible rfl)
                    try simp only [Act.put, List.setIfInBounds_toArray, List.set_cons_zero, List.set_cons_succ]
                    refine wpAnyH_take (i := 3) (oi := ({ dst := some 118, op := Op.indexAddr 34 (Operand.tmp 116) (Operand.tmp 117), type := 0, pos := "more.go:60", after := #[{ on := 1, ground := Ground.data }, { on := 2, ground := Ground.data }], guard := none } : Oper)) (v := ?v2x3) rfl (by kernel_rfl) (by kernel_rfl) (by kernel_rfl) (fun _ _ _ h => h) (Or.inl ⟨by rfl, ?hy2x3⟩) hHeld ?_
                    case hy2x3 => ((intro w hSw); (try dsimp only at hSw); go_simp; try with_reducible rfl)
                    try simp only [Act.put, List.setIfInBounds_toArray, List.set_cons_zero, List.set_cons_succ]
                    refine wpAnyH_take (i := 4) (oi := ({ dst := some 119, op := Op.load 23 (Operand.tmp 118), type := 23, pos := "more.go:60", after := #[{ on := 3, ground := Ground.data }], guard := none } : Oper)) (v := ?v2x4) rfl (by kernel_rfl) (by kernel_rfl) (by kernel_rfl) (fun _ _ _ h => h) (Or.inl ⟨by rfl, ?hy2x4⟩) hHeld ?_
                    case hy2x4 => ((intro w hSw); (try dsimp only at hSw); go_simp; try with_reducible rfl)
                    try simp only [Act.put, List.setIfInBounds_toArray, List.set_cons_zero, List.set_cons_succ]
                    refine wpAnyH_take (i := 5) (oi := ({ dst := some 120, op := Op.move (Operand.tmp 0), type := 34, pos := "more.go:60", after := #[], guard := none } : Oper)) (v := ?v2x5) rfl (by kernel_rfl) (by kernel_rfl) (by kernel_rfl) (fun _ _ _ h => h) (Or.inl ⟨by rfl, ?hy2x5⟩) hHeld ?_
                    case hy2x5 => ((intro w hSw); (try dsimp only at hSw); go_simp; try with_reducible rfl)
                    try simp only [Act.put, List.setIfInBounds_toArray, List.set_cons_zero, List.set_cons_succ]
                    refine wpAnyH_take (i := 6) (oi := ({ dst := some 121, op := Op.move (Operand.tmp 19), type := 3, pos := "more.go:60", after := #[], guard := none } : Oper)) (v := ?v2x6) rfl (by kernel_rfl) (by kernel_rfl) (by kernel_rfl) (fun _ _ _ h => h) (Or.inl ⟨by rfl, ?hy2x6⟩) hHeld ?_
                    case hy2x6 => ((intro w hSw); (try dsimp only at hSw); go_simp; try with_reducible rfl)
                    try simp only [Act.put, List.setIfInBounds_toArray, List.set_cons_zero, List.set_cons_succ]
                    refine wpAnyH_take (i := 7) (oi := ({ dst := some 122, op := Op.indexAddr 34 (Operand.tmp 120) (Operand.tmp 121), type := 0, pos := "more.go:60", after := #[{ on := 5, ground := Ground.data }, { on := 6, ground := Ground.data }], guard := none } : Oper)) (v := ?v2x7) rfl (by kernel_rfl) (by kernel_rfl) (by kernel_rfl) (fun _ _ _ h => h) (Or.inl ⟨by rfl, ?hy2x7⟩) hHeld ?_
                    case hy2x7 => ((intro w hSw); (try dsimp only at hSw); go_simp; try with_reducible rfl)
                    try simp only [Act.put, List.setIfInBounds_toArray, List.set_cons_zero, List.set_cons_succ]
                    refine wpAnyH_take (i := 8) (oi := ({ dst := some 123, op := Op.load 23 (Operand.tmp 122), type := 23, pos := "more.go:60", after := #[{ on := 7, ground := Ground.data }], guard := none } : Oper)) (v := ?v2x8) rfl (by kernel_rfl) (by kernel_rfl) (by kernel_rfl) (fun _ _ _ h => h) (Or.inl ⟨by rfl, ?hy2x8⟩) hHeld ?_
                    case hy2x8 => ((intro w hSw); (try dsimp only at hSw); go_simp; try with_reducible rfl)
                    try simp only [Act.put, List.setIfInBounds_toArray, List.set_cons_zero, List.set_cons_succ]
                    refine wpAnyH_take (i := 9) (oi := ({ dst := some 124, op := Op.binOp BinOp.neq 23 (Operand.tmp 119) (Operand.tmp 123) 23, type := 4, pos := "more.go:60", after := #[{ on := 4, ground := Ground.data }, { on := 8, ground := Ground.data }], guard := none } : Oper)) (v := ?v2x9) rfl (by kernel_rfl) (by kernel_rfl) (by kernel_rfl) (fun _ _ _ h => h) (Or.inl ⟨by rfl, ?hy2x9⟩) hHeld ?_
                    case hy2x9 => ((intro w hSw); (try dsimp only at hSw); go_simp; try with_reducible rfl)
                    try simp only [Act.put, List.setIfInBounds_toArray, List.set_cons_zero, List.set_cons_succ]
                    refine wpAnyH_take (i := 10) (oi := ({ dst := some 125, op := Op.move (Operand.tmp 124), type := 4, pos := "more.go:60", after := #[{ on := 9, ground := Ground.data }], guard := none } : Oper)) (v := ?v2x10) rfl (by kernel_rfl) (by kernel_rfl) (by kernel_rfl) (fun _ _ _ h => h) (Or.inl ⟨by rfl, ?hy2x10⟩) hHeld ?_
                    case hy2x10 => ((intro w hSw); (try dsimp only at hSw); go_simp; try with_reducible rfl)
                    try simp only [Act.put, List.setIfInBounds_toArray, List.set_cons_zero, List.set_cons_succ]
                    refine wpAnyH_take (i := 11) (oi := ({ dst := some 126, op := Op.move (Operand.tmp 0), type := 34, pos := "more.go:60", after := #[{ on := 10, ground := Ground.guard }], guard := some (10, false) } : Oper)) (v := ?v2x11) rfl (by kernel_rfl) (by kernel_rfl) (by kernel_rfl) (fun _ _ _ h => h) (Or.inl ⟨by rfl, ?hy2x11⟩) hHeld ?_
                    case hy2x11 => ((intro w hSw); (try dsimp only at hSw); go_simp; try with_reducible rfl)
                    try simp only [Act.put, List.setIfInBounds_toArray, List.set_cons_zero, List.set_cons_succ]
                    refine wpAnyH_take (i := 12) (oi := ({ dst := some 127, op := Op.move (Operand.tmp 19), type := 3, pos := "more.go:60", after := #[{ on := 10, ground := Ground.guard }], guard := some (10, false) } : Oper)) (v := ?v2x12) rfl (by kernel_rfl) (by kernel_rfl) (by kernel_rfl) (fun _ _ _ h => h) (Or.inl ⟨by rfl, ?hy2x12⟩) hHeld ?_
                    case hy2x12 => ((intro w hSw); (try dsimp only at hSw); go_simp; try with_reducible rfl)
                    try simp only [Act.put, List.setIfInBounds_toArray, List.set_cons_zero, List.set_cons_succ]
                    refine wpAnyH_take (i := 13) (oi := ({ dst := some 128, op := Op.indexAddr 34 (Operand.tmp 126) (Operand.tmp 127), type := 0, pos := "more.go:60", after := #[{ on := 11, ground := Ground.data }, { on := 12, ground := Ground.data }, { on := 10, ground := Ground.guard }], guard := some (10, false) } : Oper)) (v := ?v2x13) rfl (by kernel_rfl) (by kernel_rfl) (by kernel_rfl) (fun _ _ _ h => h) (Or.inl ⟨by rfl, ?hy2x13⟩) hHeld ?_
                    case hy2x13 => ((intro w hSw); (try dsimp only at hSw); go_simp; try with_reducible rfl)
                    try simp only [Act.put, List.setIfInBounds_toArray, List.set_cons_zero, List.set_cons_succ]
                    refine wpAnyH_take (i := 14) (oi := ({ dst := some 129, op := Op.load 23 (Operand.tmp 128), type := 23, pos := "more.go:60", after := #[{ on := 13, ground := Ground.data }, { on := 10, ground := Ground.guard }], guard := some (10, false) } : Oper)) (v := ?v2x14) rfl (by kernel_rfl) (by kernel_rfl) (by kernel_rfl) (fun _ _ _ h => h) (Or.inl ⟨by rfl, ?hy2x14⟩) hHeld ?_
                    case hy2x14 => ((intro w hSw); (try dsimp only at hSw); go_simp; try with_reducible rfl)
                    try simp only [Act.put, List.setIfInBounds_toArray, List.set_cons_zero, List.set_cons_succ]
                    refine wpAnyH_take (i := 16) (oi := ({ dst := some 131, op := Op.move (Operand.tmp 0), type := 34, pos := "more.go:60", after := #[{ on := 10, ground := Ground.guard }], guard := some (10, false) } : Oper)) (v := ?v2x16) rfl (by kernel_rfl) (by kernel_rfl) (by kernel_rfl) (fun _ _ _ h => h) (Or.inl ⟨by rfl, ?hy2x16⟩) hHeld ?_
                    case hy2x16 => ((intro w hSw); (try dsimp only at hSw); go_simp; try with_reducible rfl)
                    try simp only [Act.put, List.setIfInBounds_toArray, List.set_cons_zero, List.set_cons_succ]
                    refine wpAnyH_take (i := 17) (oi := ({ dst := some 132, op := Op.move (Operand.tmp 19), type := 3, pos := "more.go:60", after := #[{ on := 10, ground := Ground.guard }], guard := some (10, false) } : Oper)) (v := ?v2x17) rfl (by kernel_rfl) (by kernel_rfl) (by kernel_rfl) (fun _ _ _ h => h) (Or.inl ⟨by rfl, ?hy2x17⟩) hHeld ?_
                    case hy2x17 => ((intro w hSw); (try dsimp only at hSw); go_simp; try with_reducible rfl)
                    try simp only [Act.put, List.setIfInBounds_toArray, List.set_cons_zero, List.set_cons_succ]
                    refine wpAnyH_take (i := 18) (oi := ({ dst := some 133, op := Op.indexAddr 34 (Operand.tmp 131) (Operand.tmp 132), type := 0, pos := "more.go:60", after := #[{ on := 16, ground := Ground.data }, { on := 17, ground := Ground.data }, { on := 10, ground := Ground.guard }], guard := some (10, false) } : Oper)) (v := ?v2x18) rfl (by kernel_rfl) (by kernel_rfl) (by kernel_rfl) (fun _ _ _ h => h) (Or.inl ⟨by rfl, ?hy2x18⟩) hHeld ?_
                    case hy2x18 => ((intro w hSw); (try dsimp only at hSw); go_simp; try with_reducible rfl)
                    try simp only [Act.put, List.setIfInBounds_toArray, List.set_cons_zero, List.set_cons_succ]
                    refine wpAnyH_take (i := 19) (oi := ({ dst := some 134, op := Op.fieldAddr 23 (Operand.tmp 133) 0, type := 0, pos := "more.go:60", after := #[{ on := 18, ground := Ground.data }, { on := 10, ground := Ground.guard }], guard := some (10, false) } : Oper)) (v := ?v2x19) rfl (by kernel_rfl) (by kernel_rfl) (by kernel_rfl) (fun _ _ _ h => h) (Or.inl ⟨by rfl, ?hy2x19⟩) hHeld ?_
                    case hy2x19 => ((intro w hSw); (try dsimp only at hSw); go_simp; try with_reducible rfl)
                    try simp only [Act.put, List.setIfInBounds_toArray, List.set_cons_zero, List.set_cons_succ]
                    refine wpAnyH_take (i := 20) (oi := ({ dst := some 135, op := Op.load 3 (Operand.tmp 134), type := 3, pos := "more.go:60", after := #[{ on := 19, ground := Ground.data }, { on := 10, ground := Ground.guard }], guard := some (10, false) } : Oper)) (v := ?v2x20) rfl (by kernel_rfl) (by kernel_rfl) (by kernel_rfl) (fun _ _ _ h => h) (Or.inl ⟨by rfl, ?hy2x20⟩) hHeld ?_
                    case hy2x20 => ((intro w hSw); (try dsimp only at hSw); go_simp; try with_reducible rfl)
                    try simp only [Act.put, List.setIfInBounds_toArray, List.set_cons_zero, List.set_cons_succ]
                    refine wpAnyH_take (i := 21) (oi := ({ dst := some 136, op := Op.binOp BinOp.gtr 3 (Operand.tmp 135) (Operand.const (Value.int IntKind.i64 0)) 3, type := 4, pos := "more.go:60", after := #[{ on := 20, ground := Ground.data }, { on := 10, ground := Ground.guard }], guard := some (10, false) } : Oper)) (v := ?v2x21) rfl (by kernel_rfl) (by kernel_rfl) (by kernel_rfl) (fun _ _ _ h => h) (Or.inl ⟨by rfl, ?hy2x21⟩) hHeld ?_
                    case hy2x21 => ((intro w hSw); (try dsimp only at hSw); go_simp; try with_reducible rfl)
                    try simp only [Act.put, List.setIfInBounds_toArray, List.set_cons_zero, List.set_cons_succ]
                    refine wpAnyH_ready (rs := [15]) (by kernel_rfl) (by simp) ?_
                    refine AllReadyH.cons (o := ({ dst := some 130, op := Op.call { callee := Callee.value (Operand.func 18), args := #[Operand.tmp 129], argTypes := #[23] }, type := 4, pos := "more.go:60", after := #[{ on := 14, ground := Ground.data }, { on := 10, ground := Ground.chain }, { on := 10, ground := Ground.guard }], guard := some (10, false) } : Oper)) rfl (fun K hK => ?_) AllReadyH.nil
                    go_simp
                    go_at_call 18
                    refine (CI _).out.mono ?_
                    rintro e wi ⟨rfl, hb⟩
                    try go_wp2_with fail
                    refine hK.out _ _ ?_ (fun hHeld2 => ?_)
                    · try dsimp only
                      try dsimp only at hHeld
                      go_split_ands
                      refine ⟨?_, ?_, ?_, ?_, ?_, ?_, ?_⟩
                      all_goals first
                        | exact keepc hb (B := wr.heap.size) (by assumption) (by assumption) (by assumption)
                        | exact Nat.le_trans (by assumption) hb.size
                        | exact Below.link (by assumption) hb
                    clear hK K hHeld
                    try simp only [Act.put, List.setIfInBounds_toArray, List.set_cons_zero, List.set_cons_succ]
                    refine wpAnyH_take (i := 22) (oi := ({ dst := some 137, op := Op.move (Operand.tmp 136), type := 4, pos := "more.go:60", after := #[{ on := 21, ground := Ground.data }, { on := 15, ground := Ground.chain }, { on := 10, ground := Ground.guard }], guard := some (10, false) } : Oper)) (v := ?v2x22) rfl (by kernel_rfl) (by kernel_rfl) (by kernel_rfl) (fun _ _ _ h => h) (Or.inl ⟨by rfl, ?hy2x22⟩) hHeld2 ?_
                    case hy2x22 => ((intro w hSw); (try dsimp only at hSw); go_simp; try with_reducible rfl)
                    try simp only [Act.put, List.setIfInBounds_toArray, List.set_cons_zero, List.set_cons_succ]
                    refine wpAnyH_take (i := 23) (oi := ({ dst := some 138, op := Op.move (Operand.tmp 0), type := 34, pos := "more.go:60", after := #[{ on := 22, ground := Ground.guard }], guard := some (22, false) } : Oper)) (v := undef) rfl (by kernel_rfl) (by kernel_rfl) (by kernel_rfl) (fun _ _ _ h => h) (Or.inr ⟨by rfl, rfl⟩) hHeld2 ?_
                    try simp only [Act.put, List.setIfInBounds_toArray, List.set_cons_zero, List.set_cons_succ]
                    refine wpAnyH_take (i := 24) (oi := ({ dst := some 139, op := Op.move (Operand.tmp 19), type := 3, pos := "more.go:60", after := #[{ on := 22, ground := Ground.guard }], guard := some (22, false) } : Oper)) (v := undef) rfl (by kernel_rfl) (by kernel_rfl) (by kernel_rfl) (fun _ _ _ h => h) (Or.inr ⟨by rfl, rfl⟩) hHeld2 ?_
                    try simp only [Act.put, List.setIfInBounds_toArray, List.set_cons_zero, List.set_cons_succ]
                    refine wpAnyH_take (i := 25) (oi := ({ dst := some 140, op := Op.indexAddr 34 (Operand.tmp 138) (Operand.tmp 139), type := 0, pos := "more.go:60", after := #[{ on := 23, ground := Ground.data }, { on := 24, ground := Ground.data }, { on := 22, ground := Ground.guard }], guard := some (22, false) } : Oper)) (v := undef) rfl (by kernel_rfl) (by kernel_rfl) (by kernel_rfl) (fun _ _ _ h => h) (Or.inr ⟨by rfl, rfl⟩) hHeld2 ?_
                    try simp only [Act.put, List.setIfInBounds_toArray, List.set_cons_zero, List.set_cons_succ]
                    refine wpAnyH_take (i := 26) (oi := ({ dst := some 141, op := Op.fieldAddr 23 (Operand.tmp 140) 1, type := 0, pos := "more.go:60", after := #[{ on := 25, ground := Ground.data }, { on := 22, ground := Ground.guard }], guard := some (22, false) } : Oper)) (v := undef) rfl (by kernel_rfl) (by kernel_rfl) (by kernel_rfl) (fun _ _ _ h => h) (Or.inr ⟨by rfl, rfl⟩) hHeld2 ?_
                    try simp only [Act.put, List.setIfInBounds_toArray, List.set_cons_zero, List.set_cons_succ]
                    refine wpAnyH_take (i := 27) (oi := ({ dst := some 142, op := Op.load 9 (Operand.tmp 141), type := 9, pos := "more.go:60", after := #[{ on := 26, ground := Ground.data }, { on := 22, ground := Ground.guard }], guard := some (22, false) } : Oper)) (v := undef) rfl (by kernel_rfl) (by kernel_rfl) (by kernel_rfl) (fun _ _ _ h => h) (Or.inr ⟨by rfl, rfl⟩) hHeld2 ?_
                    try simp only [Act.put, List.setIfInBounds_toArray, List.set_cons_zero, List.set_cons_succ]
                    refine wpAnyH_take (i := 28) (oi := ({ dst := some 143, op := Op.binOp BinOp.neq 9 (Operand.tmp 142) (Operand.const (Value.string { data := #[] })) 9, type := 4, pos := "more.go:60", after := #[{ on := 27, ground := Ground.data }, { on := 22, ground := Ground.guard }], guard := some (22, false) } : Oper)) (v := undef) rfl (by kernel_rfl) (by kernel_rfl) (by kernel_rfl) (fun _ _ _ h => h) (Or.inr ⟨by rfl, rfl⟩) hHeld2 ?_
                    try simp only [Act.put, List.setIfInBounds_toArray, List.set_cons_zero, List.set_cons_succ]
                    refine wpAnyH_take (i := 29) (oi := ({ dst := some 144, op := Op.pick (Operand.tmp 137) (Operand.const (Value.bool true)) (Operand.tmp 143), type := 4, pos := "more.go:60", after := #[{ on := 22, ground := Ground.data }, { on := 28, ground := Ground.data }, { on := 10, ground := Ground.guard }], guard := some (10, false) } : Oper)) (v := ?v2x29) rfl (by kernel_rfl) (by kernel_rfl) (by kernel_rfl) (fun _ _ _ h => h) (Or.inl ⟨by rfl, ?hy2x29⟩) hHeld2 ?_
                    case hy2x29 => ((intro w hSw); (try dsimp only at hSw); go_simp; try with_reducible rfl)
                    try simp only [Act.put, List.setIfInBounds_toArray, List.set_cons_zero, List.set_cons_succ]
                    refine wpAnyH_take (i := 30) (oi := ({ dst := some 145, op := Op.binOp BinOp.neq 4 (Operand.tmp 130) (Operand.tmp 144) 4, type := 4, pos := "more.go:60", after := #[{ on := 15, ground := Ground.data }, { on := 29, ground := Ground.data }, { on := 10, ground := Ground.guard }], guard := some (10, false) } : Oper)) (v := ?v2x30) rfl (by kernel_rfl) (by kernel_rfl) (by kernel_rfl) (fun _ _ _ h => h) (Or.inl ⟨by rfl, ?hy2x30⟩) hHeld2 ?_
                    case hy2x30 => ((intro w hSw); (try dsimp only at hSw); go_simp; try with_reducible rfl)
                    try simp only [Act.put, List.setIfInBounds_toArray, List.set_cons_zero, List.set_cons_succ]
                    refine wpAnyH_take (i := 31) (oi := ({ dst := some 146, op := Op.pick (Operand.tmp 125) (Operand.const (Value.bool true)) (Operand.tmp 145), type := 4, pos := "more.go:60", after := #[{ on := 10, ground := Ground.data }, { on := 30, ground := Ground.data }], guard := none } : Oper)) (v := ?v2x31) rfl (by kernel_rfl) (by kernel_rfl) (by kernel_rfl) (fun _ _ _ h => h) (Or.inl ⟨by rfl, ?hy2x31⟩) hHeld2 ?_
                    case hy2x31 => ((intro w hSw); (try dsimp only at hSw); go_simp; try with_reducible rfl)
                    try simp only [Act.put, List.setIfInBounds_toArray, List.set_cons_zero, List.set_cons_succ]
                    refine wpAnyH_done (by kernel_rfl) ?_ _
                    try dsimp only at hHeld2
                    go_split_ands
                    go_wp2
                    go_roundg (gk - 1)
                    case measure => exact hgg
                    case rel => exact ⟨k2 + 1, by go_num, by omega, Below.link HBW.out (by assumption)⟩
                  · go_wp2_with fail
                    refine wp_region_held_drew (S := (fun w' => w'.cell? ⟨N, 0, none⟩ = some (.slice (some ⟨p2, o3, none⟩) n c2) ∧ w'.cell? ⟨p1, o1 + k2 * 2, none⟩ = some (.int .i64 3) ∧ w'.cell? ⟨p1, o1 + k2 * 2 + 1, none⟩ = some (.string qn) ∧ w'.cell? ⟨p2, o3 + k2 * 2, none⟩ = some (.int .i64 3) ∧ w'.cell? ⟨p2, o3 + k2 * 2 + 1, none⟩ = some (.string qn) ∧ wr.heap.size ≤ w'.heap.size ∧ Below wr.heap.size wr w')) (by kernel_rfl) ⟨n0, x0, x1, y0, y1, Nat.le_refl _, (Below.refl _ _).drew⟩ (fun hHeld => ?_)
                    refine wpAnyH_take (i := 0) (oi := ({ dst := some 115, op := Op.fieldAddr 36 (Operand.tmp 17) 0, type := 0, pos := "more.go:60", after := #[], guard := none } : Oper)) (v := ?v3x0) rfl (by kernel_rfl) (by kernel_rfl) (by kernel_rfl) (fun _ _ _ h => h) (Or.inl ⟨by rfl, ?hy3x0⟩) hHeld ?_
                    case hy3x0 => ((intro w hSw); (try dsimp only at hSw); go_simp; try with_reducible rfl)
                    try simp only [Act.put, List.setIfInBounds_toArray, List.set_cons_zero, List.set_cons_succ]
                    refine wpAnyH_take (i := 1) (oi := ({ dst := some 116, op := Op.load 34 (Operand.tmp 115), type := 34, pos := "more.go:60", after := #[{ on := 0, ground := Ground.data }], guard := none } : Oper)) (v := ?v3x1) rfl (by kernel_rfl) (by kernel_rfl) (by kernel_rfl) (fun _ _ _ h => h) (Or.inl ⟨by rfl, ?hy3x1⟩) hHeld ?_
                    case hy3x1 => ((intro w hSw); (try dsimp only at hSw); go_simp; try with_reducible rfl)
                    try simp only [Act.put, List.setIfInBounds_toArray, List.set_cons_zero, List.set_cons_succ]
                    refine wpAnyH_take (i := 2) (oi := ({ dst := some 117, op := Op.move (Operand.tmp 19), type := 3, pos := "more.go:60", after := #[], guard := none } : Oper)) (v := ?v3x2) rfl (by kernel_rfl) (by kernel_rfl) (by kernel_rfl) (fun _ _ _ h => h) (Or.inl ⟨by rfl, ?hy3x2⟩) hHeld ?_
                    case hy3x2 => ((intro w hSw); (try dsimp only at hSw); go_simp; try with_reducible rfl)
                    try simp only [Act.put, List.setIfInBounds_toArray, List.set_cons_zero, List.set_cons_succ]
                    refine wpAnyH_take (i := 3) (oi := ({ dst := some 118, op := Op.indexAddr 34 (Operand.tmp 116) (Operand.tmp 117), type := 0, pos := "more.go:60", after := #[{ on := 1, ground := Ground.data }, { on := 2, ground := Ground.data }], guard := none } : Oper)) (v := ?v3x3) rfl (by kernel_rfl) (by kernel_rfl) (by kernel_rfl) (fun _ _ _ h => h) (Or.inl ⟨by rfl, ?hy3x3⟩) hHeld ?_
                    case hy3x3 => ((intro w hSw); (try dsimp only at hSw); go_simp; try with_reducible rfl)
                    try simp only [Act.put, List.setIfInBounds_toArray, List.set_cons_zero, List.set_cons_succ]
                    refine wpAnyH_take (i := 4) (oi := ({ dst := some 119, op := Op.load 23 (Operand.tmp 118), type := 23, pos := "more.go:60", after := #[{ on := 3, ground := Ground.data }], guard := none } : Oper)) (v := ?v3x4) rfl (by kernel_rfl) (by kernel_rfl) (by kernel_rfl) (fun _ _ _ h => h) (Or.inl ⟨by rfl, ?hy3x4⟩) hHeld ?_
                    case hy3x4 => ((intro w hSw); (try dsimp only at hSw); go_simp; try with_reducible rfl)
                    try simp only [Act.put, List.setIfInBounds_toArray, List.set_cons_zero, List.set_cons_succ]
                    refine wpAnyH_take (i := 5) (oi := ({ dst := some 120, op := Op.move (Operand.tmp 0), type := 34, pos := "more.go:60", after := #[], guard := none } : Oper)) (v := ?v3x5) rfl (by kernel_rfl) (by kernel_rfl) (by kernel_rfl) (fun _ _ _ h => h) (Or.inl ⟨by rfl, ?hy3x5⟩) hHeld ?_
                    case hy3x5 => ((intro w hSw); (try dsimp only at hSw); go_simp; try with_reducible rfl)
                    try simp only [Act.put, List.setIfInBounds_toArray, List.set_cons_zero, List.set_cons_succ]
                    refine wpAnyH_take (i := 6) (oi := ({ dst := some 121, op := Op.move (Operand.tmp 19), type := 3, pos := "more.go:60", after := #[], guard := none } : Oper)) (v := ?v3x6) rfl (by kernel_rfl) (by kernel_rfl) (by kernel_rfl) (fun _ _ _ h => h) (Or.inl ⟨by rfl, ?hy3x6⟩) hHeld ?_
                    case hy3x6 => ((intro w hSw); (try dsimp only at hSw); go_simp; try with_reducible rfl)
                    try simp only [Act.put, List.setIfInBounds_toArray, List.set_cons_zero, List.set_cons_succ]
                    refine wpAnyH_take (i := 7) (oi := ({ dst := some 122, op := Op.indexAddr 34 (Operand.tmp 120) (Operand.tmp 121), type := 0, pos := "more.go:60", after := #[{ on := 5, ground := Ground.data }, { on := 6, ground := Ground.data }], guard := none } : Oper)) (v := ?v3x7) rfl (by kernel_rfl) (by kernel_rfl) (by kernel_rfl) (fun _ _ _ h => h) (Or.inl ⟨by rfl, ?hy3x7⟩) hHeld ?_
                    case hy3x7 => ((intro w hSw); (try dsimp only at hSw); go_simp; try with_reducible rfl)
                    try simp only [Act.put, List.setIfInBounds_toArray, List.set_cons_zero, List.set_cons_succ]
                    refine wpAnyH_take (i := 8) (oi := ({ dst := some 123, op := Op.load 23 (Operand.tmp 122), type := 23, pos := "more.go:60", after := #[{ on := 7, ground := Ground.data }], guard := none } : Oper)) (v := ?v3x8) rfl (by kernel_rfl) (by kernel_rfl) (by kernel_rfl) (fun _ _ _ h => h) (Or.inl ⟨by rfl, ?hy3x8⟩) hHeld ?_
                    case hy3x8 => ((intro w hSw); (try dsimp only at hSw); go_simp; try with_reducible rfl)
                    try simp only [Act.put, List.setIfInBounds_toArray, List.set_cons_zero, List.set_cons_succ]
                    refine wpAnyH_take (i := 9) (oi := ({ dst := some 124, op := Op.binOp BinOp.neq 23 (Operand.tmp 119) (Operand.tmp 123) 23, type := 4, pos := "more.go:60", after := #[{ on := 4, ground := Ground.data }, { on := 8, ground := Ground.data }], guard := none } : Oper)) (v := ?v3x9) rfl (by kernel_rfl) (by kernel_rfl) (by kernel_rfl) (fun _ _ _ h => h) (Or.inl ⟨by rfl, ?hy3x9⟩) hHeld ?_
                    case hy3x9 => ((intro w hSw); (try dsimp only at hSw); go_simp; try with_reducible rfl)
                    try simp only [Act.put, List.setIfInBounds_toArray, List.set_cons_zero, List.set_cons_succ]
                    refine wpAnyH_take (i := 10) (oi := ({ dst := some 125, op := Op.move (Operand.tmp 124), type := 4, pos := "more.go:60", after := #[{ on := 9, ground := Ground.data }], guard := none } : Oper)) (v := ?v3x10) rfl (by kernel_rfl) (by kernel_rfl) (by kernel_rfl) (fun _ _ _ h => h) (Or.inl ⟨by rfl, ?hy3x10⟩) hHeld ?_
                    case hy3x10 => ((intro w hSw); (try dsimp only at hSw); go_simp; try with_reducible rfl)
                    try simp only [Act.put, List.setIfInBounds_toArray, List.set_cons_zero, List.set_cons_succ]
                    refine wpAnyH_take (i := 11) (oi := ({ dst := some 126, op := Op.move (Operand.tmp 0), type := 34, pos := "more.go:60", after := #[{ on := 10, ground := Ground.guard }], guard := some (10, false) } : Oper)) (v := ?v3x11) rfl (by kernel_rfl) (by kernel_rfl) (by kernel_rfl) (fun _ _ _ h => h) (Or.inl ⟨by rfl, ?hy3x11⟩) hHeld ?_
                    case hy3x11 => ((intro w hSw); (try dsimp only at hSw); go_simp; try with_reducible rfl)
                    try simp only [Act.put, List.setIfInBounds_toArray, List.set_cons_zero, List.set_cons_succ]
                    refine wpAnyH_take (i := 12) (oi := ({ dst := some 127, op := Op.move (Operand.tmp 19), type := 3, pos := "more.go:60", after := #[{ on := 10, ground := Ground.guard }], guard := some (10, false) } : Oper)) (v := ?v3x12) rfl (by kernel_rfl) (by kernel_rfl) (by kernel_rfl) (fun _ _ _ h => h) (Or.inl ⟨by rfl, ?hy3x12⟩) hHeld ?_
                    case hy3x12 => ((intro w hSw); (try dsimp only at hSw); go_simp; try with_reducible rfl)
                    try simp only [Act.put, List.setIfInBounds_toArray, List.set_cons_zero, List.set_cons_succ]
                    refine wpAnyH_take (i := 13) (oi := ({ dst := some 128, op := Op.indexAddr 34 (Operand.tmp 126) (Operand.tmp 127), type := 0, pos := "more.go:60", after := #[{ on := 11, ground := Ground.data }, { on := 12, ground := Ground.data }, { on := 10, ground := Ground.guard }], guard := some (10, false) } : Oper)) (v := ?v3x13) rfl (by kernel_rfl) (by kernel_rfl) (by kernel_rfl) (fun _ _ _ h => h) (Or.inl ⟨by rfl, ?hy3x13⟩) hHeld ?_
                    case hy3x13 => ((intro w hSw); (try dsimp only at hSw); go_simp; try with_reducible rfl)
                    try simp only [Act.put, List.setIfInBounds_toArray, List.set_cons_zero, List.set_cons_succ]
                    refine wpAnyH_take (i := 14) (oi := ({ dst := some 129, op := Op.load 23 (Operand.tmp 128), type := 23, pos := "more.go:60", after := #[{ on := 13, ground := Ground.data }, { on := 10, ground := Ground.guard }], guard := some (10, false) } : Oper)) (v := ?v3x14) rfl (by kernel_rfl) (by kernel_rfl) (by kernel_rfl) (fun _ _ _ h => h) (Or.inl ⟨by rfl, ?hy3x14⟩) hHeld ?_
                    case hy3x14 => ((intro w hSw); (try dsimp only at hSw); go_simp; try with_reducible rfl)
                    try simp only [Act.put, List.setIfInBounds_toArray, List.set_cons_zero, List.set_cons_succ]
                    refine wpAnyH_take (i := 16) (oi := ({ dst := some 131, op := Op.move (Operand.tmp 0), type := 34, pos := "more.go:60", after := #[{ on := 10, ground := Ground.guard }], guard := some (10, false) } : Oper)) (v := ?v3x16) rfl (by kernel_rfl) (by kernel_rfl) (by kernel_rfl) (fun _ _ _ h => h) (Or.inl ⟨by rfl, ?hy3x16⟩) hHeld ?_
                    case hy3x16 => ((intro w hSw); (try dsimp only at hSw); go_simp; try with_reducible rfl)
                    try simp only [Act.put, List.setIfInBounds_toArray, List.set_cons_zero, List.set_cons_succ]
                    refine wpAnyH_take (i := 17) (oi := ({ dst := some 132, op := Op.move (Operand.tmp 19), type := 3, pos := "more.go:60", after := #[{ on := 10, ground := Ground.guard }], guard := some (10, false) } : Oper)) (v := ?v3x17) rfl (by kernel_rfl) (by kernel_rfl) (by kernel_rfl) (fun _ _ _ h => h) (Or.inl ⟨by rfl, ?hy3x17⟩) hHeld ?_
                    case hy3x17 => ((intro w hSw); (try dsimp only at hSw); go_simp; try with_reducible rfl)
                    try simp only [Act.put, List.setIfInBounds_toArray, List.set_cons_zero, List.set_cons_succ]
                    refine wpAnyH_take (i := 18) (oi := ({ dst := some 133, op := Op.indexAddr 34 (Operand.tmp 131) (Operand.tmp 132), type := 0, pos := "more.go:60", after := #[{ on := 16, ground := Ground.data }, { on := 17, ground := Ground.data }, { on := 10, ground := Ground.guard }], guard := some (10, false) } : Oper)) (v := ?v3x18) rfl (by kernel_rfl) (by kernel_rfl) (by kernel_rfl) (fun _ _ _ h => h) (Or.inl ⟨by rfl, ?hy3x18⟩) hHeld ?_
                    case hy3x18 => ((intro w hSw); (try dsimp only at hSw); go_simp; try with_reducible rfl)
                    try simp only [Act.put, List.setIfInBounds_toArray, List.set_cons_zero, List.set_cons_succ]
                    refine wpAnyH_take (i := 19) (oi := ({ dst := some 134, op := Op.fieldAddr 23 (Operand.tmp 133) 0, type := 0, pos := "more.go:60", after := #[{ on := 18, ground := Ground.data }, { on := 10, ground := Ground.guard }], guard := some (10, false) } : Oper)) (v := ?v3x19) rfl (by kernel_rfl) (by kernel_rfl) (by kernel_rfl) (fun _ _ _ h => h) (Or.inl ⟨by rfl, ?hy3x19⟩) hHeld ?_
                    case hy3x19 => ((intro w hSw); (try dsimp only at hSw); go_simp; try with_reducible rfl)
                    try simp only [Act.put, List.setIfInBounds_toArray, List.set_cons_zero, List.set_cons_succ]
                    refine wpAnyH_take (i := 20) (oi := ({ dst := some 135, op := Op.load 3 (Operand.tmp 134), type := 3, pos := "more.go:60", after := #[{ on := 19, ground := Ground.data }, { on := 10, ground := Ground.guard }], guard := some (10, false) } : Oper)) (v := ?v3x20) rfl (by kernel_rfl) (by kernel_rfl) (by kernel_rfl) (fun _ _ _ h => h) (Or.inl ⟨by rfl, ?hy3x20⟩) hHeld ?_
                    case hy3x20 => ((intro w hSw); (try dsimp only at hSw); go_simp; try with_reducible rfl)
                    try simp only [Act.put, List.setIfInBounds_toArray, List.set_cons_zero, List.set_cons_succ]
                    refine wpAnyH_take (i := 21) (oi := ({ dst := some 136, op := Op.binOp BinOp.gtr 3 (Operand.tmp 135) (Operand.const (Value.int IntKind.i64 0)) 3, type := 4, pos := "more.go:60", after := #[{ on := 20, ground := Ground.data }, { on := 10, ground := Ground.guard }], guard := some (10, false) } : Oper)) (v := ?v3x21) rfl (by kernel_rfl) (by kernel_rfl) (by kernel_rfl) (fun _ _ _ h => h) (Or.inl ⟨by rfl, ?hy3x21⟩) hHeld ?_
                    case hy3x21 => ((intro w hSw); (try dsimp only at hSw); go_simp; try with_reducible rfl)
                    try simp only [Act.put, List.setIfInBounds_toArray, List.set_cons_zero, List.set_cons_succ]
                    refine wpAnyH_ready (rs := [15]) (by kernel_rfl) (by simp) ?_
                    refine AllReadyH.cons (o := ({ dst := some 130, op := Op.call { callee := Callee.value (Operand.func 18), args := #[Operand.tmp 129], argTypes := #[23] }, type := 4, pos := "more.go:60", after := #[{ on := 14, ground := Ground.data }, { on := 10, ground := Ground.chain }, { on := 10, ground := Ground.guard }], guard := some (10, false) } : Oper)) rfl (fun K hK => ?_) AllReadyH.nil
                    go_simp
                    go_at_call 18
                    refine (CI _).out.mono ?_
                    rintro e wi ⟨rfl, hb⟩
                    try go_wp2_with fail
                    refine hK.out _ _ ?_ (fun hHeld2 => ?_)
                    · try dsimp only
                      try dsimp only at hHeld
                      go_split_ands
                      refine ⟨?_, ?_, ?_, ?_, ?_, ?_, ?_⟩
                      all_goals first
                        | exact keepc hb (B := wr.heap.size) (by assumption) (by assumption) (by assumption)
                        | exact Nat.le_trans (by assumption) hb.size
                        | exact Below.link (by assumption) hb
                    clear hK K hHeld
                    try simp only [Act.put, List.setIfInBounds_toArray, List.set_cons_zero, List.set_cons_succ]
                    refine wpAnyH_take (i := 22) (oi := ({ dst := some 137, op := Op.move (Operand.tmp 136), type := 4, pos := "more.go:60", after := #[{ on := 21, ground := Ground.data }, { on := 15, ground := Ground.chain }, { on := 10, ground := Ground.guard }], guard := some (10, false) } : Oper)) (v := ?v3x22) rfl (by kernel_rfl) (by kernel_rfl) (by kernel_rfl) (fun _ _ _ h => h) (Or.inl ⟨by rfl, ?hy3x22⟩) hHeld2 ?_
                    case hy3x22 => ((intro w hSw); (try dsimp only at hSw); go_simp; try with_reducible rfl)
                    try simp only [Act.put, List.setIfInBounds_toArray, List.set_cons_zero, List.set_cons_succ]
                    refine wpAnyH_take (i := 23) (oi := ({ dst := some 138, op := Op.move (Operand.tmp 0), type := 34, pos := "more.go:60", after := #[{ on := 22, ground := Ground.guard }], guard := some (22, false) } : Oper)) (v := undef) rfl (by kernel_rfl) (by kernel_rfl) (by kernel_rfl) (fun _ _ _ h => h) (Or.inr ⟨by rfl, rfl⟩) hHeld2 ?_
                    try simp only [Act.put, List.setIfInBounds_toArray, List.set_cons_zero, List.set_cons_succ]
                    refine wpAnyH_take (i := 24) (oi := ({ dst := some 139, op := Op.move (Operand.tmp 19), type := 3, pos := "more.go:60", after := #[{ on := 22, ground := Ground.guard }], guard := some (22, false) } : Oper)) (v := undef) rfl (by kernel_rfl) (by kernel_rfl) (by kernel_rfl) (fun _ _ _ h => h) (Or.inr ⟨by rfl, rfl⟩) hHeld2 ?_
                    try simp only [Act.put, List.setIfInBounds_toArray, List.set_cons_zero, List.set_cons_succ]
                    refine wpAnyH_take (i := 25) (oi := ({ dst := some 140, op := Op.indexAddr 34 (Operand.tmp 138) (Operand.tmp 139), type := 0, pos := "more.go:60", after := #[{ on := 23, ground := Ground.data }, { on := 24, ground := Ground.data }, { on := 22, ground := Ground.guard }], guard := some (22, false) } : Oper)) (v := undef) rfl (by kernel_rfl) (by kernel_rfl) (by kernel_rfl) (fun _ _ _ h => h) (Or.inr ⟨by rfl, rfl⟩) hHeld2 ?_
                    try simp only [Act.put, List.setIfInBounds_toArray, List.set_cons_zero, List.set_cons_succ]
                    refine wpAnyH_take (i := 26) (oi := ({ dst := some 141, op := Op.fieldAddr 23 (Operand.tmp 140) 1, type := 0, pos := "more.go:60", after := #[{ on := 25, ground := Ground.data }, { on := 22, ground := Ground.guard }], guard := some (22, false) } : Oper)) (v := undef) rfl (by kernel_rfl) (by kernel_rfl) (by kernel_rfl) (fun _ _ _ h => h) (Or.inr ⟨by rfl, rfl⟩) hHeld2 ?_
                    try simp only [Act.put, List.setIfInBounds_toArray, List.set_cons_zero, List.set_cons_succ]
                    refine wpAnyH_take (i := 27) (oi := ({ dst := some 142, op := Op.load 9 (Operand.tmp 141), type := 9, pos := "more.go:60", after := #[{ on := 26, ground := Ground.data }, { on := 22, ground := Ground.guard }], guard := some (22, false) } : Oper)) (v := undef) rfl (by kernel_rfl) (by kernel_rfl) (by kernel_rfl) (fun _ _ _ h => h) (Or.inr ⟨by rfl, rfl⟩) hHeld2 ?_
                    try simp only [Act.put, List.setIfInBounds_toArray, List.set_cons_zero, List.set_cons_succ]
                    refine wpAnyH_take (i := 28) (oi := ({ dst := some 143, op := Op.binOp BinOp.neq 9 (Operand.tmp 142) (Operand.const (Value.string { data := #[] })) 9, type := 4, pos := "more.go:60", after := #[{ on := 27, ground := Ground.data }, { on := 22, ground := Ground.guard }], guard := some (22, false) } : Oper)) (v := undef) rfl (by kernel_rfl) (by kernel_rfl) (by kernel_rfl) (fun _ _ _ h => h) (Or.inr ⟨by rfl, rfl⟩) hHeld2 ?_
                    try simp only [Act.put, List.setIfInBounds_toArray, List.set_cons_zero, List.set_cons_succ]
                    refine wpAnyH_take (i := 29) (oi := ({ dst := some 144, op := Op.pick (Operand.tmp 137) (Operand.const (Value.bool true)) (Operand.tmp 143), type := 4, pos := "more.go:60", after := #[{ on := 22, ground := Ground.data }, { on := 28, ground := Ground.data }, { on := 10, ground := Ground.guard }], guard := some (10, false) } : Oper)) (v := ?v3x29) rfl (by kernel_rfl) (by kernel_rfl) (by kernel_rfl) (fun _ _ _ h => h) (Or.inl ⟨by rfl, ?hy3x29⟩) hHeld2 ?_
                    case hy3x29 => ((intro w hSw); (try dsimp only at hSw); go_simp; try with_reducible rfl)
                    try simp only [Act.put, List.setIfInBounds_toArray, List.set_cons_zero, List.set_cons_succ]
                    refine wpAnyH_take (i := 30) (oi := ({ dst := some 145, op := Op.binOp BinOp.neq 4 (Operand.tmp 130) (Operand.tmp 144) 4, type := 4, pos := "more.go:60", after := #[{ on := 15, ground := Ground.data }, { on := 29, ground := Ground.data }, { on := 10, ground := Ground.guard }], guard := some (10, false) } : Oper)) (v := ?v3x30) rfl (by kernel_rfl) (by kernel_rfl) (by kernel_rfl) (fun _ _ _ h => h) (Or.inl ⟨by rfl, ?hy3x30⟩) hHeld2 ?_
                    case hy3x30 => ((intro w hSw); (try dsimp only at hSw); go_simp; try with_reducible rfl)
                    try simp only [Act.put, List.setIfInBounds_toArray, List.set_cons_zero, List.set_cons_succ]
                    refine wpAnyH_take (i := 31) (oi := ({ dst := some 146, op := Op.pick (Operand.tmp 125) (Operand.const (Value.bool true)) (Operand.tmp 145), type := 4, pos := "more.go:60", after := #[{ on := 10, ground := Ground.data }, { on := 30, ground := Ground.data }], guard := none } : Oper)) (v := ?v3x31) rfl (by kernel_rfl) (by kernel_rfl) (by kernel_rfl) (fun _ _ _ h => h) (Or.inl ⟨by rfl, ?hy3x31⟩) hHeld2 ?_
                    case hy3x31 => ((intro w hSw); (try dsimp only at hSw); go_simp; try with_reducible rfl)
                    try simp only [Act.put, List.setIfInBounds_toArray, List.set_cons_zero, List.set_cons_succ]
                    refine wpAnyH_done (by kernel_rfl) ?_ _
                    try dsimp only at hHeld2
                    go_split_ands
                    go_wp2
                    go_roundg (gk - 1)
                    case measure => exact hgg
                    case rel => exact ⟨k2 + 1, by go_num, by omega, Below.link HBW.out (by assumption)⟩
                  · go_wp2_with fail
                    refine wp_region_held_drew (S := (fun w' => w'.cell? ⟨N, 0, none⟩ = some (.slice (some ⟨p2, o3, none⟩) n c2) ∧ w'.cell? ⟨p1, o1 + k2 * 2, none⟩ = some (.int .i64 4) ∧ w'.cell? ⟨p1, o1 + k2 * 2 + 1, none⟩ = some (.string qn) ∧ w'.cell? ⟨p2, o3 + k2 * 2, none⟩ = some (.int .i64 4) ∧ w'.cell? ⟨p2, o3 + k2 * 2 + 1, none⟩ = some (.string qn) ∧ wr.heap.size ≤ w'.heap.size ∧ Below wr.heap.size wr w')) (by kernel_rfl) ⟨n0, x0, x1, y0, y1, Nat.le_refl _, (Below.refl _ _).drew⟩ (fun hHeld => ?_)
                    refine wpAnyH_take (i := 0) (oi := ({ dst := some 115, op := Op.fieldAddr 36 (Operand.tmp 17) 0, type := 0, pos := "more.go:60", after := #[], guard := none } : Oper)) (v := ?v4x0) rfl (by kernel_rfl) (by kernel_rfl) (by kernel_rfl) (fun _ _ _ h => h) (Or.inl ⟨by rfl, ?hy4x0⟩) hHeld ?_
                    case hy4x0 => ((intro w hSw); (try dsimp only at hSw); go_simp; try with_reducible rfl)
                    try simp only [Act.put, List.setIfInBounds_toArray, List.set_cons_zero, List.set_cons_succ]
                    refine wpAnyH_take (i := 1) (oi := ({ dst := some 116, op := Op.load 34 (Operand.tmp 115), type := 34, pos := "more.go:60", after := #[{ on := 0, ground := Ground.data }], guard := none } : Oper)) (v := ?v4x1) rfl (by kernel_rfl) (by kernel_rfl) (by kernel_rfl) (fun _ _ _ h => h) (Or.inl ⟨by rfl, ?hy4x1⟩) hHeld ?_
                    case hy4x1 => ((intro w hSw); (try dsimp only at hSw); go_simp; try with_reducible rfl)
                    try simp only [Act.put, List.setIfInBounds_toArray, List.set_cons_zero, List.set_cons_succ]
                    refine wpAnyH_take (i := 2) (oi := ({ dst := some 117, op := Op.move (Operand.tmp 19), type := 3, pos := "more.go:60", after := #[], guard := none } : Oper)) (v := ?v4x2) rfl (by kernel_rfl) (by kernel_rfl) (by kernel_rfl) (fun _ _ _ h => h) (Or.inl ⟨by rfl, ?hy4x2⟩) hHeld ?_
                    case hy4x2 => ((intro w hSw); (try dsimp only at hSw); go_simp; try with_reducible rfl)
                    try simp only [Act.put, List.setIfInBounds_toArray, List.set_cons_zero, List.set_cons_succ]
                    refine wpAnyH_take (i := 3) (oi := ({ dst := some 118, op := Op.indexAddr 34 (Operand.tmp 116) (Operand.tmp 117), type := 0, pos := "more.go:60", after := #[{ on := 1, ground := Ground.data }, { on := 2, ground := Ground.data }], guard := none } : Oper)) (v := ?v4x3) rfl (by kernel_rfl) (by kernel_rfl) (by kernel_rfl) (fun _ _ _ h => h) (Or.inl ⟨by rfl, ?hy4x3⟩) hHeld ?_
                    case hy4x3 => ((intro w hSw); (try dsimp only at hSw); go_simp; try with_reducible rfl)
                    try simp only [Act.put, List.setIfInBounds_toArray, List.set_cons_zero, List.set_cons_succ]
                    refine wpAnyH_take (i := 4) (oi := ({ dst := some 119, op := Op.load 23 (Operand.tmp 118), type := 23, pos := "more.go:60", after := #[{ on := 3, ground := Ground.data }], guard := none } : Oper)) (v := ?v4x4) rfl (by kernel_rfl) (by kernel_rfl) (by kernel_rfl) (fun _ _ _ h => h) (Or.inl ⟨by rfl, ?hy4x4⟩) hHeld ?_
                    case hy4x4 => ((intro w hSw); (try dsimp only at hSw); go_simp; try with_reducible rfl)
                    try simp only [Act.put, List.setIfInBounds_toArray, List.set_cons_zero, List.set_cons_succ]
                    refine wpAnyH_take (i := 5) (oi := ({ dst := some 120, op := Op.move (Operand.tmp 0), type := 34, pos := "more.go:60", after := #[], guard := none } : Oper)) (v := ?v4x5) rfl (by kernel_rfl) (by kernel_rfl) (by kernel_rfl) (fun _ _ _ h => h) (Or.inl ⟨by rfl, ?hy4x5⟩) hHeld ?_
                    case hy4x5 => ((intro w hSw); (try dsimp only at hSw); go_simp; try with_reducible rfl)
                    try simp only [Act.put, List.setIfInBounds_toArray, List.set_cons_zero, List.set_cons_succ]
                    refine wpAnyH_take (i := 6) (oi := ({ dst := some 121, op := Op.move (Operand.tmp 19), type := 3, pos := "more.go:60", after := #[], guard := none } : Oper)) (v := ?v4x6) rfl (by kernel_rfl) (by kernel_rfl) (by kernel_rfl) (fun _ _ _ h => h) (Or.inl ⟨by rfl, ?hy4x6⟩) hHeld ?_
                    case hy4x6 => ((intro w hSw); (try dsimp only at hSw); go_simp; try with_reducible rfl)
                    try simp only [Act.put, List.setIfInBounds_toArray, List.set_cons_zero, List.set_cons_succ]
                    refine wpAnyH_take (i := 7) (oi := ({ dst := some 122, op := Op.indexAddr 34 (Operand.tmp 120) (Operand.tmp 121), type := 0, pos := "more.go:60", after := #[{ on := 5, ground := Ground.data }, { on := 6, ground := Ground.data }], guard := none } : Oper)) (v := ?v4x7) rfl (by kernel_rfl) (by kernel_rfl) (by kernel_rfl) (fun _ _ _ h => h) (Or.inl ⟨by rfl, ?hy4x7⟩) hHeld ?_
                    case hy4x7 => ((intro w hSw); (try dsimp only at hSw); go_simp; try with_reducible rfl)
                    try simp only [Act.put, List.setIfInBounds_toArray, List.set_cons_zero, List.set_cons_succ]
                    refine wpAnyH_take (i := 8) (oi := ({ dst := some 123, op := Op.load 23 (Operand.tmp 122), type := 23, pos := "more.go:60", after := #[{ on := 7, ground := Ground.data }], guard := none } : Oper)) (v := ?v4x8) rfl (by kernel_rfl) (by kernel_rfl) (by kernel_rfl) (fun _ _ _ h => h) (Or.inl ⟨by rfl, ?hy4x8⟩) hHeld ?_
                    case hy4x8 => ((intro w hSw); (try dsimp only at hSw); go_simp; try with_reducible rfl)
                    try simp only [Act.put, List.setIfInBounds_toArray, List.set_cons_zero, List.set_cons_succ]
                    refine wpAnyH_take (i := 9) (oi := ({ dst := some 124, op := Op.binOp BinOp.neq 23 (Operand.tmp 119) (Operand.tmp 123) 23, type := 4, pos := "more.go:60", after := #[{ on := 4, ground := Ground.data }, { on := 8, ground := Ground.data }], guard := none } : Oper)) (v := ?v4x9) rfl (by kernel_rfl) (by kernel_rfl) (by kernel_rfl) (fun _ _ _ h => h) (Or.inl ⟨by rfl, ?hy4x9⟩) hHeld ?_
                    case hy4x9 => ((intro w hSw); (try dsimp only at hSw); go_simp; try with_reducible rfl)
                    try simp only [Act.put, List.setIfInBounds_toArray, List.set_cons_zero, List.set_cons_succ]
                    refine wpAnyH_take (i := 10) (oi := ({ dst := some 125, op := Op.move (Operand.tmp 124), type := 4, pos := "more.go:60", after := #[{ on := 9, ground := Ground.data }], guard := none } : Oper)) (v := ?v4x10) rfl (by kernel_rfl) (by kernel_rfl) (by kernel_rfl) (fun _ _ _ h => h) (Or.inl ⟨by rfl, ?hy4x10⟩) hHeld ?_
                    case hy4x10 => ((intro w hSw); (try dsimp only at hSw); go_simp; try with_reducible rfl)
                    try simp only [Act.put, List.setIfInBounds_toArray, List.set_cons_zero, List.set_cons_succ]
                    refine wpAnyH_take (i := 11) (oi := ({ dst := some 126, op := Op.move (Operand.tmp 0), type := 34, pos := "more.go:60", after := #[{ on := 10, ground := Ground.guard }], guard := some (10, false) } : Oper)) (v := ?v4x11) rfl (by kernel_rfl) (by kernel_rfl) (by kernel_rfl) (fun _ _ _ h => h) (Or.inl ⟨by rfl, ?hy4x11⟩) hHeld ?_
                    case hy4x11 => ((intro w hSw); (try dsimp only at hSw); go_simp; try with_reducible rfl)
                    try simp only [Act.put, List.setIfInBounds_toArray, List.set_cons_zero, List.set_cons_succ]
                    refine wpAnyH_take (i := 12) (oi := ({ dst := some 127, op := Op.move (Operand.tmp 19), type := 3, pos := "more.go:60", after := #[{ on := 10, ground := Ground.guard }], guard := some (10, false) } : Oper)) (v := ?v4x12) rfl (by kernel_rfl) (by kernel_rfl) (by kernel_rfl) (fun _ _ _ h => h) (Or.inl ⟨by rfl, ?hy4x12⟩) hHeld ?_
                    case hy4x12 => ((intro w hSw); (try dsimp only at hSw); go_simp; try with_reducible rfl)
                    try simp only [Act.put, List.setIfInBounds_toArray, List.set_cons_zero, List.set_cons_succ]
                    refine wpAnyH_take (i := 13) (oi := ({ dst := some 128, op := Op.indexAddr 34 (Operand.tmp 126) (Operand.tmp 127), type := 0, pos := "more.go:60", after := #[{ on := 11, ground := Ground.data }, { on := 12, ground := Ground.data }, { on := 10, ground := Ground.guard }], guard := some (10, false) } : Oper)) (v := ?v4x13) rfl (by kernel_rfl) (by kernel_rfl) (by kernel_rfl) (fun _ _ _ h => h) (Or.inl ⟨by rfl, ?hy4x13⟩) hHeld ?_
                    case hy4x13 => ((intro w hSw); (try dsimp only at hSw); go_simp; try with_reducible rfl)
                    try simp only [Act.put, List.setIfInBounds_toArray, List.set_cons_zero, List.set_cons_succ]
                    refine wpAnyH_take (i := 14) (oi := ({ dst := some 129, op := Op.load 23 (Operand.tmp 128), type := 23, pos := "more.go:60", after := #[{ on := 13, ground := Ground.data }, { on := 10, ground := Ground.guard }], guard := some (10, false) } : Oper)) (v := ?v4x14) rfl (by kernel_rfl) (by kernel_rfl) (by kernel_rfl) (fun _ _ _ h => h) (Or.inl ⟨by rfl, ?hy4x14⟩) hHeld ?_
                    case hy4x14 => ((intro w hSw); (try dsimp only at hSw); go_simp; try with_reducible rfl)
                    try simp only [Act.put, List.setIfInBounds_toArray, List.set_cons_zero, List.set_cons_succ]
                    refine wpAnyH_take (i := 16) (oi := ({ dst := some 131, op := Op.move (Operand.tmp 0), type := 34, pos := "more.go:60", after := #[{ on := 10, ground := Ground.guard }], guard := some (10, false) } : Oper)) (v := ?v4x16) rfl (by kernel_rfl) (by kernel_rfl) (by kernel_rfl) (fun _ _ _ h => h) (Or.inl ⟨by rfl, ?hy4x16⟩) hHeld ?_
                    case hy4x16 => ((intro w hSw); (try dsimp only at hSw); go_simp; try with_reducible rfl)
                    try simp only [Act.put, List.setIfInBounds_toArray, List.set_cons_zero, List.set_cons_succ]
                    refine wpAnyH_take (i := 17) (oi := ({ dst := some 132, op := Op.move (Operand.tmp 19), type := 3, pos := "more.go:60", after := #[{ on := 10, ground := Ground.guard }], guard := some (10, false) } : Oper)) (v := ?v4x17) rfl (by kernel_rfl) (by kernel_rfl) (by kernel_rfl) (fun _ _ _ h => h) (Or.inl ⟨by rfl, ?hy4x17⟩) hHeld ?_
                    case hy4x17 => ((intro w hSw); (try dsimp only at hSw); go_simp; try with_reducible rfl)
                    try simp only [Act.put, List.setIfInBounds_toArray, List.set_cons_zero, List.set_cons_succ]
                    refine wpAnyH_take (i := 18) (oi := ({ dst := some 133, op := Op.indexAddr 34 (Operand.tmp 131) (Operand.tmp 132), type := 0, pos := "more.go:60", after := #[{ on := 16, ground := Ground.data }, { on := 17, ground := Ground.data }, { on := 10, ground := Ground.guard }], guard := some (10, false) } : Oper)) (v := ?v4x18) rfl (by kernel_rfl) (by kernel_rfl) (by kernel_rfl) (fun _ _ _ h => h) (Or.inl ⟨by rfl, ?hy4x18⟩) hHeld ?_
                    case hy4x18 => ((intro w hSw); (try dsimp only at hSw); go_simp; try with_reducible rfl)
                    try simp only [Act.put, List.setIfInBounds_toArray, List.set_cons_zero, List.set_cons_succ]
                    refine wpAnyH_take (i := 19) (oi := ({ dst := some 134, op := Op.fieldAddr 23 (Operand.tmp 133) 0, type := 0, pos := "more.go:60", after := #[{ on := 18, ground := Ground.data }, { on := 10, ground := Ground.guard }], guard := some (10, false) } : Oper)) (v := ?v4x19) rfl (by kernel_rfl) (by kernel_rfl) (by kernel_rfl) (fun _ _ _ h => h) (Or.inl ⟨by rfl, ?hy4x19⟩) hHeld ?_
                    case hy4x19 => ((intro w hSw); (try dsimp only at hSw); go_simp; try with_reducible rfl)
                    try simp only [Act.put, List.setIfInBounds_toArray, List.set_cons_zero, List.set_cons_succ]
                    refine wpAnyH_take (i := 20) (oi := ({ dst := some 135, op := Op.load 3 (Operand.tmp 134), type := 3, pos := "more.go:60", after := #[{ on := 19, ground := Ground.data }, { on := 10, ground := Ground.guard }], guard := some (10, false) } : Oper)) (v := ?v4x20) rfl (by kernel_rfl) (by kernel_rfl) (by kernel_rfl) (fun _ _ _ h => h) (Or.inl ⟨by rfl, ?hy4x20⟩) hHeld ?_
                    case hy4x20 => ((intro w hSw); (try dsimp only at hSw); go_simp; try with_reducible rfl)
                    try simp only [Act.put, List.setIfInBounds_toArray, List.set_cons_zero, List.set_cons_succ]
                    refine wpAnyH_take (i := 21) (oi := ({ dst := some 136, op := Op.binOp BinOp.gtr 3 (Operand.tmp 135) (Operand.const (Value.int IntKind.i64 0)) 3, type := 4, pos := "more.go:60", after := #[{ on := 20, ground := Ground.data }, { on := 10, ground := Ground.guard }], guard := some (10, false) } : Oper)) (v := ?v4x21) rfl (by kernel_rfl) (by kernel_rfl) (by kernel_rfl) (fun _ _ _ h => h) (Or.inl ⟨by rfl, ?hy4x21⟩) hHeld ?_
                    case hy4x21 => ((intro w hSw); (try dsimp only at hSw); go_simp; try with_reducible rfl)
                    try simp only [Act.put, List.setIfInBounds_toArray, List.set_cons_zero, List.set_cons_succ]
                    refine wpAnyH_ready (rs := [15]) (by kernel_rfl) (by simp) ?_
                    refine AllReadyH.cons (o := ({ dst := some 130, op := Op.call { callee := Callee.value (Operand.func 18), args := #[Operand.tmp 129], argTypes := #[23] }, type := 4, pos := "more.go:60", after := #[{ on := 14, ground := Ground.data }, { on := 10, ground := Ground.chain }, { on := 10, ground := Ground.guard }], guard := some (10, false) } : Oper)) rfl (fun K hK => ?_) AllReadyH.nil
                    go_simp
                    go_at_call 18
                    refine (CI _).out.mono ?_
                    rintro e wi ⟨rfl, hb⟩
                    try go_wp2_with fail
                    refine hK.out _ _ ?_ (fun hHeld2 => ?_)
                    · try dsimp only
                      try dsimp only at hHeld
                      go_split_ands
                      refine ⟨?_, ?_, ?_, ?_, ?_, ?_, ?_⟩
                      all_goals first
                        | exact keepc hb (B := wr.heap.size) (by assumption) (by assumption) (by assumption)
                        | exact Nat.le_trans (by assumption) hb.size
                        | exact Below.link (by assumption) hb
                    clear hK K hHeld
                    try simp only [Act.put, List.setIfInBounds_toArray, List.set_cons_zero, List.set_cons_succ]
                    refine wpAnyH_take (i := 22) (oi := ({ dst := some 137, op := Op.move (Operand.tmp 136), type := 4, pos := "more.go:60", after := #[{ on := 21, ground := Ground.data }, { on := 15, ground := Ground.chain }, { on := 10, ground := Ground.guard }], guard := some (10, false) } : Oper)) (v := ?v4x22) rfl (by kernel_rfl) (by kernel_rfl) (by kernel_rfl) (fun _ _ _ h => h) (Or.inl ⟨by rfl, ?hy4x22⟩) hHeld2 ?_
                    case hy4x22 => ((intro w hSw); (try dsimp only at hSw); go_simp; try with_reducible rfl)
                    try simp only [Act.put, List.setIfInBounds_toArray, List.set_cons_zero, List.set_cons_succ]
                    refine wpAnyH_take (i := 23) (oi := ({ dst := some 138, op := Op.move (Operand.tmp 0), type := 34, pos := "more.go:60", after := #[{ on := 22, ground := Ground.guard }], guard := some (22, false) } : Oper)) (v := undef) rfl (by kernel_rfl) (by kernel_rfl) (by kernel_rfl) (fun _ _ _ h => h) (Or.inr ⟨by rfl, rfl⟩) hHeld2 ?_
                    try simp only [Act.put, List.setIfInBounds_toArray, List.set_cons_zero, List.set_cons_succ]
                    refine wpAnyH_take (i := 24) (oi := ({ dst := some 139, op := Op.move (Operand.tmp 19), type := 3, pos := "more.go:60", after := #[{ on := 22, ground := Ground.guard }], guard := some (22, false) } : Oper)) (v := undef) rfl (by kernel_rfl) (by kernel_rfl) (by kernel_rfl) (fun _ _ _ h => h) (Or.inr ⟨by rfl, rfl⟩) hHeld2 ?_
                    try simp only [Act.put, List.setIfInBounds_toArray, List.set_cons_zero, List.set_cons_succ]
                    refine wpAnyH_take (i := 25) (oi := ({ dst := some 140, op := Op.indexAddr 34 (Operand.tmp 138) (Operand.tmp 139), type := 0, pos := "more.go:60", after := #[{ on := 23, ground := Ground.data }, { on := 24, ground := Ground.data }, { on := 22, ground := Ground.guard }], guard := some (22, false) } : Oper)) (v := undef) rfl (by kernel_rfl) (by kernel_rfl) (by kernel_rfl) (fun _ _ _ h => h) (Or.inr ⟨by rfl, rfl⟩) hHeld2 ?_
                    try simp only [Act.put, List.setIfInBounds_toArray, List.set_cons_zero, List.set_cons_succ]
                    refine wpAnyH_take (i := 26) (oi := ({ dst := some 141, op := Op.fieldAddr 23 (Operand.tmp 140) 1, type := 0, pos := "more.go:60", after := #[{ on := 25, ground := Ground.data }, { on := 22, ground := Ground.guard }], guard := some (22, false) } : Oper)) (v := undef) rfl (by kernel_rfl) (by kernel_rfl) (by kernel_rfl) (fun _ _ _ h => h) (Or.inr ⟨by rfl, rfl⟩) hHeld2 ?_
                    try simp only [Act.put, List.setIfInBounds_toArray, List.set_cons_zero, List.set_cons_succ]
                    refine wpAnyH_take (i := 27) (oi := ({ dst := some 142, op := Op.load 9 (Operand.tmp 141), type := 9, pos := "more.go:60", after := #[{ on := 26, ground := Ground.data }, { on := 22, ground := Ground.guard }], guard := some (22, false) } : Oper)) (v := undef) rfl (by kernel_rfl) (by kernel_rfl) (by kernel_rfl) (fun _ _ _ h => h) (Or.inr ⟨by rfl, rfl⟩) hHeld2 ?_
                    try simp only [Act.put, List.setIfInBounds_toArray, List.set_cons_zero, List.set_cons_succ]
                    refine wpAnyH_take (i := 28) (oi := ({ dst := some 143, op := Op.binOp BinOp.neq 9 (Operand.tmp 142) (Operand.const (Value.string { data := #[] })) 9, type := 4, pos := "more.go:60", after := #[{ on := 27, ground := Ground.data }, { on := 22, ground := Ground.guard }], guard := some (22, false) } : Oper)) (v := undef) rfl (by kernel_rfl) (by kernel_rfl) (by kernel_rfl) (fun _ _ _ h => h) (Or.inr ⟨by rfl, rfl⟩) hHeld2 ?_
                    try simp only [Act.put, List.setIfInBounds_toArray, List.set_cons_zero, List.set_cons_succ]
                    refine wpAnyH_take (i := 29) (oi := ({ dst := some 144, op := Op.pick (Operand.tmp 137) (Operand.const (Value.bool true)) (Operand.tmp 143), type := 4, pos := "more.go:60", after := #[{ on := 22, ground := Ground.data }, { on := 28, ground := Ground.data }, { on := 10, ground := Ground.guard }], guard := some (10, false) } : Oper)) (v := ?v4x29) rfl (by kernel_rfl) (by kernel_rfl) (by kernel_rfl) (fun _ _ _ h => h) (Or.inl ⟨by rfl, ?hy4x29⟩) hHeld2 ?_
                    case hy4x29 => ((intro w hSw); (try dsimp only at hSw); go_simp; try with_reducible rfl)
                    try simp only [Act.put, List.setIfInBounds_toArray, List.set_cons_zero, List.set_cons_succ]
                    refine wpAnyH_take (i := 30) (oi := ({ dst := some 145, op := Op.binOp BinOp.neq 4 (Operand.tmp 130) (Operand.tmp 144) 4, type := 4, pos := "more.go:60", after := #[{ on := 15, ground := Ground.data }, { on := 29, ground := Ground.data }, { on := 10, ground := Ground.guard }], guard := some (10, false) } : Oper)) (v := ?v4x30) rfl (by kernel_rfl) (by kernel_rfl) (by kernel_rfl) (fun _ _ _ h => h) (Or.inl ⟨by rfl, ?hy4x30⟩) hHeld2 ?_
                    case hy4x30 => ((intro w hSw); (try dsimp only at hSw); go_simp; try with_reducible rfl)
                    try simp only [Act.put, List.setIfInBounds_toArray, List.set_cons_zero, List.set_cons_succ]
                    refine wpAnyH_take (i := 31) (oi := ({ dst := some 146, op := Op.pick (Operand.tmp 125) (Operand.const (Value.bool true)) (Operand.tmp 145), type := 4, pos := "more.go:60", after := #[{ on := 10, ground := Ground.data }, { on := 30, ground := Ground.data }], guard := none } : Oper)) (v := ?v4x31) rfl (by kernel_rfl) (by kernel_rfl) (by kernel_rfl) (fun _ _ _ h => h) (Or.inl ⟨by rfl, ?hy4x31⟩) hHeld2 ?_
                    case hy4x31 => ((intro w hSw); (try dsimp only at hSw); go_simp; try with_reducible rfl)
                    try simp only [Act.put, List.setIfInBounds_toArray, List.set_cons_zero, List.set_cons_succ]
                    refine wpAnyH_done (by kernel_rfl) ?_ _
                    try dsimp only at hHeld2
                    go_split_ands
                    go_wp2
                    go_roundg (gk - 1)
                    case measure => exact hgg
                    case rel => exact ⟨k2 + 1, by go_num, by omega, Below.link HBW.out (by assumption)⟩
                · go_wp2_with fail
                  go_region_held3 (fun w' => w'.cell? ⟨N, 0, none⟩ = some (.slice (some ⟨p2, o3, none⟩) n c2) ∧ w'.cell? ⟨p1, o1 + k2 * 2, none⟩ = some (.int .i64 0) ∧ w'.cell? ⟨p1, o1 + k2 * 2 + 1, none⟩ = some (.string qn) ∧ w'.cell? ⟨p2, o3 + k2 * 2, none⟩ = some (.int .i64 0) ∧ w'.cell? ⟨p2, o3 + k2 * 2 + 1, none⟩ = some (.string qn) ∧ wr.heap.size ≤ w'.heap.size ∧ Below wr.heap.size wr w')
                    (first
                      | exact ⟨n0, x0, x1, y0, y1, Nat.le_refl _, (Below.refl _ _).drew⟩
                      | (go_split_ands
                         refine ⟨?_, ?_, ?_, ?_, ?_, ?_, ?_⟩
                         all_goals first
                           | assumption
                           | exact keepc hb (B := wr.heap.size) (by assumption) (by assumption) (by assumption)
                           | exact Nat.le_trans (by assumption) hb.size
                           | exact Below.link (by assumption) hb))
                    (first
                      | (go_at_call 18; refine (CI _).out.mono ?_; rintro e wi ⟨rfl, hb⟩))
                  go_split_ands
                  go_wp2
                  go_roundg (gk - 1)
                  case measure => exact hgg
                  case rel => exact ⟨k2 + 1, by go_num, by omega, Below.link HBW.out (by assumption)⟩
                · go_wp2_with fail
                  go_region_held3 (fun w' => w'.cell? ⟨N, 0, none⟩ = some (.slice (some ⟨p2, o3, none⟩) n c2) ∧ w'.cell? ⟨p1, o1 + k2 * 2, none⟩ = some (.int .i64 0) ∧ w'.cell? ⟨p1, o1 + k2 * 2 + 1, none⟩ = some (.string qn) ∧ w'.cell? ⟨p2, o3 + k2 * 2, none⟩ = some (.int .i64 0) ∧ w'.cell? ⟨p2, o3 + k2 * 2 + 1, none⟩ = some (.string qn) ∧ wr.heap.size ≤ w'.heap.size ∧ Below wr.heap.size wr w')
                    (first
                      | exact ⟨n0, x0, x1, y0, y1, Nat.le_refl _, (Below.refl _ _).drew⟩
                      | (go_split_ands
                         refine ⟨?_, ?_, ?_, ?_, ?_, ?_, ?_⟩
                         all_goals first
                           | assumption
                           | exact keepc hb (B := wr.heap.size) (by assumption) (by assumption) (by assumption)
                           | exact Nat.le_trans (by assumption) hb.size
                           | exact Below.link (by assumption) hb))
                    (first
                      | (go_at_call 18; refine (CI _).out.mono ?_; rintro e wi ⟨rfl, hb⟩))
                  go_split_ands
                  go_wp2
                  go_roundg (gk - 1)
                  case measure => exact hgg
                  case rel => exact ⟨k2 + 1, by go_num, by omega, Below.link HBW.out (by assumption)⟩
              · go_wp2
                go_ret
                exact ⟨rfl, U4.out.trans (HBEL2.out.mono U4.out.size)⟩
          · have HG : Hid (sgE xs (0, ⟨#[]⟩) true = 0 ∧ sgT xs (0, ⟨#[]⟩) true = S ++ ⟨#[41]⟩ ++ ⟨#[86]⟩) := by
              have h := parts_sg (r := (rd, rn)) (b := true) HA.out HR.out (by rw [HN.out]; exact hn16)
              refine ⟨h.1, h.2.trans (eq_mkB ?_).symm⟩
              rw [L_append, L_append, HSX.out]; show 40 :: xs.flatMap dsz ++ [41] ++ [86] = 40 :: (xs.flatMap dsz ++ 41 :: [86]); simp
            have CS := fun W (h : TyRow W (.slice ao n cap) xs) => Lib.hid (Sign_any (.slice ao n cap) xs 0 ⟨#[]⟩ true W h (by rw [HN.out]; omega))
            rw [HG.out.1, HG.out.2] at CS
            have CM := fun W => Lib.hid (sign_meth xs 0 ⟨#[]⟩ true W HG.out.1)
            rw [HG.out.2] at CM
            go_wp2_with fail
            refine (CW _).out.mono ?_
            rintro e u1 ⟨rfl, hb⟩
            have U1 := Lib.hid (HBEL.out.trans (hb.mono HBEL.out.size))
            have B1 := Lib.hid (Below.keep hb lb HBOX.out)
            have lu1 := lt_of_block B1.out
            have s0 : u1.cell? ⟨w.heap.size, 0, none⟩ = some (.int .i64 rd) := cells_of B1.out 0
            have s1 : u1.cell? ⟨w.heap.size, 1, none⟩ = some (.string rn) := cells_of B1.out 1
            clear hb r0 r1
            go_wp2_with fail
            refine (CS _ ((show TyRow u1 (.slice ao n cap) xs by have := HROW.out.below U1.out; rwa [HN.out] at this).alloc _)).out.mono ?_
            rintro e u2 ⟨rfl, hb⟩
            have M2 := Lib.hid (Below.keep hb (by simp) (heap_new u1 (.cells #[.slice ao n cap, .int .i64 0, .string ⟨#[]⟩, .bool true] 36)))
            have U2 := Lib.hid ((U1.out.alloc U1.out.size (.cells #[.slice ao n cap, .int .i64 0, .string ⟨#[]⟩, .bool true] 36)).trans (hb.mono (by have := U1.out.size; simp; omega)))
            clear hb s0 s1
            go_wp2_with fail
            refine (CM _).out.mono ?_
            rintro e u3 ⟨v2, rfl, row2, hb⟩
            obtain ⟨o2, c2, rfl, -⟩ := id row2
            rw [HN.out] at row2 ⊢
            have M3 := Lib.hid (Below.keep hb (lt_of_block M2.out) M2.out)
            have U3 := Lib.hid (U2.out.trans (hb.mono U2.out.size))
            have ROW2 := Lib.hid (show TyRow u3 (.slice o2 xs.length c2) xs by rw [HN.out]; exact row2)
            have lm : u1.heap.size < u3.heap.size := lt_of_block M3.out
            have mm1 : u3.cell? ⟨u1.heap.size, 1, none⟩ = some (.int .i64 0) := cells_of M3.out 1
            have mm2 : u3.cell? ⟨u1.heap.size, 2, none⟩ = some (.string ⟨#[]⟩) := cells_of M3.out 2
            clear row2 hb
            go_wp2
            have N4 := Lib.hid (heap_new u3 (.cells #[.slice o2 n c2, .int .i64 0, .string ⟨#[]⟩, .bool true] 36))
            have U4 := Lib.hid (U3.out.alloc U3.out.size (.cells #[.slice o2 n c2, .int .i64 0, .string ⟨#[]⟩, .bool true] 36))
            have ROW4 := Lib.hid (ROW2.out.alloc (.cells #[.slice o2 n c2, .int .i64 0, .string ⟨#[]⟩, .bool true] 36))
            have ROWL := Lib.hid (show TyRow (u3.alloc (.cells #[.slice o2 n c2, .int .i64 0, .string ⟨#[]⟩, .bool true] 36)) (.slice ao xs.length cap) xs by exact (HROW.out.below U3.out).alloc _)
            generalize hwn : u3.alloc (.cells #[.slice o2 n c2, .int .i64 0, .string ⟨#[]⟩, .bool true] 36) = wn at *
            generalize hNe : u3.heap.size = N at *
            have lN : N < wn.heap.size := lt_of_block N4.out
            clear hwn hNe mm1 mm2
            go_loopg [19] n (fun g i wx => ∃ k : Nat, i = .int .i64 k ∧ k + g = n ∧ Below wn.heap.size wn wx)
            case atStart => exact ⟨0, rfl, by omega, Below.refl _ _⟩
            case round =>
              obtain ⟨k2, rfl, hkg2, hbel2⟩ := hrel
              have HBEL2 := Lib.hid hbel2
              have N5 := Below.keep hbel2 lN N4.out
              have n0 : wr.cell? ⟨N, 0, none⟩ = some (.slice o2 n c2) := cells_of N5 0
              by_cases hlt2 : k2 < n
              · obtain ⟨q, p1, o1, ho1, hq1, x0, x1⟩ := row_at ROWL.out HN.out hbel2 hlt2
                obtain ⟨q', p2, o3, ho2, hq2, y0, y1⟩ := row_at ROW4.out HN.out hbel2 hlt2
                obtain rfl : q = q' := by rw [hq1] at hq2; simpa using hq2
                have hqo : okz q = true := by
                  have := HA.out
                  rw [List.all_eq_true] at this
                  exact this _ (List.mem_of_getElem? hq1)
                have hrf := refT_at hqo
                have CI := fun W => Lib.hid (IsRef_any q.1 q.2 W)
                have i0 : (0 : Int) ≤ (k2 : Int) := by omega
                have i1 : (k2 : Int) < (n : Int) := by omega
                have hgg : gk - 1 < gk := by omega
                have e1 : p1 < wr.heap.size := World.block_lt_of_cell? wr _ x0
                have e2 : p2 < wr.heap.size := World.block_lt_of_cell? wr _ y0
                have e3 : N < wr.heap.size := lt_of_block N5
                have hlw : wn.heap.size ≤ wr.heap.size := hbel2.size
                subst ho1 ho2
                have HBW := Lib.hid hbel2
                generalize hrb : refT q.1 (L q.2) = rb at *
                obtain ⟨qd, qn⟩ := q
                simp only at hrf x0 x1 y0 y1 CI
                clear hq1 hq2 hqo hrb N5 hbel2
                rcases hrf with ⟨g1, rfl⟩ | ⟨rfl, ⟨g1, g2, rfl⟩ | ⟨g1, g2, rfl⟩⟩
                · obtain rfl | rfl | rfl | rfl : qd = 1 ∨ qd = 2 ∨ qd = 3 ∨ qd = 4 := by omega
                  · go_wp2_with fail
                    refine wp_region_held_drew (S := (fun w' => w'.cell? ⟨N, 0, none⟩ = some (.slice (some ⟨p2, o3, none⟩) n c2) ∧ w'.cell? ⟨p1, o1 + k2 * 2, none⟩ = some (.int .i64 1) ∧ w'.cell? ⟨p1, o1 + k2 * 2 + 1, none⟩ = some (.string qn) ∧ w'.cell? ⟨p2, o3 + k2 * 2, none⟩ = some (.int .i64 1) ∧ w'.cell? ⟨p2, o3 + k2 * 2 + 1, none⟩ = some (.string qn) ∧ wr.heap.size ≤ w'.heap.size ∧ Below wr.heap.size wr w')) (by kernel_rfl) ⟨n0, x0, x1, y0, y1, Nat.le_refl _, (Below.refl _ _).drew⟩ (fun hHeld => ?_)
                    refine wpAnyH_take (i := 0) (oi := ({ dst := some 115, op := Op.fieldAddr 36 (Operand.tmp 17) 0, type := 0, pos := "more.go:60", after := #[], guard := none } : Oper)) (v := ?v5x0) rfl (by kernel_rfl) (by kernel_rfl) (by kernel_rfl) (fun _ _ _ h => h) (Or.inl ⟨by rfl, ?hy5x0⟩) hHeld ?_
                    case hy5x0 => ((intro w hSw); (try dsimp only at hSw); go_simp; try with_reducible rfl)
                    try simp only [Act.put, List.setIfInBounds_toArray, List.set_cons_zero, List.set_cons_succ]
                    refine wpAnyH_take (i := 1) (oi := ({ dst := some 116, op := Op.load 34 (Operand.tmp 115), type := 34, pos := "more.go:60", after := #[{ on := 0, ground := Ground.data }], guard := none } : Oper)) (v := ?v5x1) rfl (by kernel_rfl) (by kernel_rfl) (by kernel_rfl) (fun _ _ _ h => h) (Or.inl ⟨by rfl, ?hy5x1⟩) hHeld ?_
                    case hy5x1 => ((intro w hSw); (try dsimp only at hSw); go_simp; try with_reducible rfl)
                    try simp only [Act.put, List.setIfInBounds_toArray, List.set_cons_zero, List.set_cons_succ]
                    refine wpAnyH_take (i := 2) (oi := ({ dst := some 117, op := Op.move (Operand.tmp 19), type := 3, pos := "more.go:60", after := #[], guard := none } : Oper)) (v := ?v5x2) rfl (by kernel_rfl) (by kernel_rfl) (by kernel_rfl) (fun _ _ _ h => h) (Or.inl ⟨by rfl, ?hy5x2⟩) hHeld ?_
                    case hy5x2 => ((intro w hSw); (try dsimp only at hSw); go_simp; try with_reducible rfl)
                    try simp only [Act.put, List.setIfInBounds_toArray, List.set_cons_zero, List.set_cons_succ]
                    refine wpAnyH_take (i := 3) (oi := ({ dst := some 118, op := Op.indexAddr 34 (Operand.tmp 116) (Operand.tmp 117), type := 0, pos := "more.go:60", after := #[{ on := 1, ground := Ground.data }, { on := 2, ground := Ground.data }], guard := none } : Oper)) (v := ?v5x3) rfl (by kernel_rfl) (by kernel_rfl) (by kernel_rfl) (fun _ _ _ h => h) (Or.inl ⟨by rfl, ?hy5x3⟩) hHeld ?_
                    case hy5x3 => ((intro w hSw); (try dsimp only at hSw); go_simp; try with_reducible rfl)
                    try simp only [Act.put, List.setIfInBounds_toArray, List.set_cons_zero, List.set_cons_succ]
                    refine wpAnyH_take (i := 4) (oi := ({ dst := some 119, op := Op.load 23 (Operand.tmp 118), type := 23, pos := "more.go:60", after := #[{ on := 3, ground := Ground.data }], guard := none } : Oper)) (v := ?v5x4) rfl (by kernel_rfl) (by kernel_rfl) (by kernel_rfl) (fun _ _ _ h => h) (Or.inl ⟨by rfl, ?hy5x4⟩) hHeld ?_
                    case hy5x4 => ((intro w hSw); (try dsimp only at hSw); go_simp; try with_reducible rfl)
                    try simp only [Act.put, List.setIfInBounds_toArray, List.set_cons_zero, List.set_cons_succ]
                    refine wpAnyH_take (i := 5) (oi := ({ dst := some 120, op := Op.move (Operand.tmp 0), type := 34, pos := "more.go:60", after := #[], guard := none } : Oper)) (v := ?v5x5) rfl (by kernel_rfl) (by kernel_rfl) (by kernel_rfl) (fun _ _ _ h => h) (Or.inl ⟨by rfl, ?hy5x5⟩) hHeld ?_
                    case hy5x5 => ((intro w hSw); (try dsimp only at hSw); go_simp; try with_reducible rfl)
                    try simp only [Act.put, List.setIfInBounds_toArray, List.set_cons_zero, List.set_cons_succ]
                    refine wpAnyH_take (i := 6) (oi := ({ dst := some 121, op := Op.move (Operand.tmp 19), type := 3, pos := "more.go:60", after := #[], guard := none } : Oper)) (v := ?v5x6) rfl (by kernel_rfl) (by kernel_rfl) (by kernel_rfl) (fun _ _ _ h => h) (Or.inl ⟨by rfl, ?hy5x6⟩) hHeld ?_
                    case hy5x6 => ((intro w hSw); (try dsimp only at hSw); go_simp; try with_reducible rfl)
                    try simp only [Act.put, List.setIfInBounds_toArray, List.set_cons_zero, List.set_cons_succ]
                    refine wpAnyH_take (i := 7) (oi := ({ dst := some 122, op := Op.indexAddr 34 (Operand.tmp 120) (Operand.tmp 121), type := 0, pos := "more.go:60", after := #[{ on := 5, ground := Ground.data }, { on := 6, ground := Ground.data }], guard := none } : Oper)) (v := ?v5x7) rfl (by kernel_rfl) (by kernel_rfl) (by kernel_rfl) (fun _ _ _ h => h) (Or.inl ⟨by rfl, ?hy5x7⟩) hHeld ?_
                    case hy5x7 => ((intro w hSw); (try dsimp only at hSw); go_simp; try with_reducible rfl)
                    try simp only [Act.put, List.setIfInBounds_toArray, List.set_cons_zero, List.set_cons_succ]
                    refine wpAnyH_take (i := 8) (oi := ({ dst := some 123, op := Op.load 23 (Operand.tmp 122), type := 23, pos := "more.go:60", after := #[{ on := 7, ground := Ground.data }], guard := none } : Oper)) (v := ?v5x8) rfl (by kernel_rfl) (by kernel_rfl) (by kernel_rfl) (fun _ _ _ h => h) (Or.inl ⟨by rfl, ?hy5x8⟩) hHeld ?_
                    case hy5x8 => ((intro w hSw); (try dsimp only at hSw); go_simp; try with_reducible rfl)
                    try simp only [Act.put, List.setIfInBounds_toArray, List.set_cons_zero, List.set_cons_succ]
                    refine wpAnyH_take (i := 9) (oi := ({ dst := some 124, op := Op.binOp BinOp.neq 23 (Operand.tmp 119) (Operand.tmp 123) 23, type := 4, pos := "more.go:60", after := #[{ on := 4, ground := Ground.data }, { on := 8, ground := Ground.data }], guard := none } : Oper)) (v := ?v5x9) rfl (by kernel_rfl) (by kernel_rfl) (by kernel_rfl) (fun _ _ _ h => h) (Or.inl ⟨by rfl, ?hy5x9⟩) hHeld ?_
                    case hy5x9 => ((intro w hSw); (try dsimp only at hSw); go_simp; try with_reducible rfl)
                    try simp only [Act.put, List.setIfInBounds_toArray, List.set_cons_zero, List.set_cons_succ]
                    refine wpAnyH_take (i := 10) (oi := ({ dst := some 125, op := Op.move (Operand.tmp 124), type := 4, pos := "more.go:60", after := #[{ on := 9, ground := Ground.data }], guard := none } : Oper)) (v := ?v5x10) rfl (by kernel_rfl) (by kernel_rfl) (by kernel_rfl) (fun _ _ _ h => h) (Or.inl ⟨by rfl, ?hy5x10⟩) hHeld ?_
                    case hy5x10 => ((intro w hSw); (try dsimp only at hSw); go_simp; try with_reducible rfl)
                    try simp only [Act.put, List.setIfInBounds_toArray, List.set_cons_zero, List.set_cons_succ]
                    refine wpAnyH_take (i := 11) (oi := ({ dst := some 126, op := Op.move (Operand.tmp 0), type := 34, pos := "more.go:60", after := #[{ on := 10, ground := Ground.guard }], guard := some (10, false) } : Oper)) (v := ?v5x11) rfl (by kernel_rfl) (by kernel_rfl) (by kernel_rfl) (fun _ _ _ h => h) (Or.inl ⟨by rfl, ?hy5x11⟩) hHeld ?_
                    case hy5x11 => ((intro w hSw); (try dsimp only at hSw); go_simp; try with_reducible rfl)
                    try simp only [Act.put, List.setIfInBounds_toArray, List.set_cons_zero, List.set_cons_succ]
                    refine wpAnyH_take (i := 12) (oi := ({ dst := some 127, op := Op.move (Operand.tmp 19), type := 3, pos := "more.go:60", after := #[{ on := 10, ground := Ground.guard }], guard := some (10, false) } : Oper)) (v := ?v5x12) rfl (by kernel_rfl) (by kernel_rfl) (by kernel_rfl) (fun _ _ _ h => h) (Or.inl ⟨by rfl, ?hy5x12⟩) hHeld ?_
                    case hy5x12 => ((intro w hSw); (try dsimp only at hSw); go_simp; try with_reducible rfl)
                    try simp only [Act.put, List.setIfInBounds_toArray, List.set_cons_zero, List.set_cons_succ]
                    refine wpAnyH_take (i := 13) (oi := ({ dst := some 128, op := Op.indexAddr 34 (Operand.tmp 126) (Operand.tmp 127), type := 0, pos := "more.go:60", after := #[{ on := 11, ground := Ground.data }, { on := 12, ground := Ground.data }, { on := 10, ground := Ground.guard }], guard := some (10, false) } : Oper)) (v := ?v5x13) rfl (by kernel_rfl) (by kernel_rfl) (by kernel_rfl) (fun _ _ _ h => h) (Or.inl ⟨by rfl, ?hy5x13⟩) hHeld ?_
                    case hy5x13 => ((intro w hSw); (try dsimp only at hSw); go_simp; try with_reducible rfl)
                    try simp only [Act.put, List.setIfInBounds_toArray, List.set_cons_zero, List.set_cons_succ]
                    refine wpAnyH_take (i := 14) (oi := ({ dst := some 129, op := Op.load 23 (Operand.tmp 128), type := 23, pos := "more.go:60", after := #[{ on := 13, ground := Ground.data }, { on := 10, ground := Ground.guard }], guard := some (10, false) } : Oper)) (v := ?v5x14) rfl (by kernel_rfl) (by kernel_rfl) (by kernel_rfl) (fun _ _ _ h => h) (Or.inl ⟨by rfl, ?hy5x14⟩) hHeld ?_
                    case hy5x14 => ((intro w hSw); (try dsimp only at hSw); go_simp; try with_reducible rfl)
                    try simp only [Act.put, List.setIfInBounds_toArray, List.set_cons_zero, List.set_cons_succ]
                    refine wpAnyH_take (i := 16) (oi := ({ dst := some 131, op := Op.move (Operand.tmp 0), type := 34, pos := "more.go:60", after := #[{ on := 10, ground := Ground.guard }], guard := some (10, false) } : Oper)) (v := ?v5x16) rfl (by kernel_rfl) (by kernel_rfl) (by kernel_rfl) (fun _ _ _ h => h) (Or.inl ⟨by rfl, ?hy5x16⟩) hHeld ?_
                    case hy5x16 => ((intro w hSw); (try dsimp only at hSw); go_simp; try with_reducible rfl)
                    try simp only [Act.put, List.setIfInBounds_toArray, List.set_cons_zero, List.set_cons_succ]
                    refine wpAnyH_take (i := 17) (oi := ({ dst := some 132, op := Op.move (Operand.tmp 19), type := 3, pos := "more.go:60", after := #[{ on := 10, ground := Ground.guard }], guard := some (10, false) } : Oper)) (v := ?v5x17) rfl (by kernel_rfl) (by kernel_rfl) (by kernel_rfl) (fun _ _ _ h => h) (Or.inl ⟨by rfl, ?hy5x17⟩) hHeld ?_
                    case hy5x17 => ((intro w hSw); (try dsimp only at hSw); go_simp; try with_reducible rfl)
                    try simp only [Act.put, List.setIfInBounds_toArray, List.set_cons_zero, List.set_cons_succ]
                    refine wpAnyH_take (i := 18) (oi := ({ dst := some 133, op := Op.indexAddr 34 (Operand.tmp 131) (Operand.tmp 132), type := 0, pos := "more.go:60", after := #[{ on := 16, ground := Ground.data }, { on := 17, ground := Ground.data }, { on := 10, ground := Ground.guard }], guard := some (10, false) } : Oper)) (v := ?v5x18) rfl (by kernel_rfl) (by kernel_rfl) (by kernel_rfl) (fun _ _ _ h => h) (Or.inl ⟨by rfl, ?hy5x18⟩) hHeld ?_
                    case hy5x18 => ((intro w hSw); (try dsimp only at hSw); go_simp; try with_reducible rfl)
                    try simp only [Act.put, List.setIfInBounds_toArray, List.set_cons_zero, List.set_cons_succ]
                    refine wpAnyH_take (i := 19) (oi := ({ dst := some 134, op := Op.fieldAddr 23 (Operand.tmp 133) 0, type := 0, pos := "more.go:60", after := #[{ on := 18, ground := Ground.data }, { on := 10, ground := Ground.guard }], guard := some (10, false) } : Oper)) (v := ?v5x19) rfl (by kernel_rfl) (by kernel_rfl) (by kernel_rfl) (fun _ _ _ h => h) (Or.inl ⟨by rfl, ?hy5x19⟩) hHeld ?_
                    case hy5x19 => ((intro w hSw); (try dsimp only at hSw); go_simp; try with_reducible rfl)
                    try simp only [Act.put, List.setIfInBounds_toArray, List.set_cons_zero, List.set_cons_succ]
                    refine wpAnyH_take (i := 20) (oi := ({ dst := some 135, op := Op.load 3 (Operand.tmp 134), type := 3, pos := "more.go:60", after := #[{ on := 19, ground := Ground.data }, { on := 10, ground := Ground.guard }], guard := some (10, false) } : Oper)) (v := ?v5x20) rfl (by kernel_rfl) (by kernel_rfl) (by kernel_rfl) (fun _ _ _ h => h) (Or.inl ⟨by rfl, ?hy5x20⟩) hHeld ?_
                    case hy5x20 => ((intro w hSw); (try dsimp only at hSw); go_simp; try with_reducible rfl)
                    try simp only [Act.put, List.setIfInBounds_toArray, List.set_cons_zero, List.set_cons_succ]
                    refine wpAnyH_take (i := 21) (oi := ({ dst := some 136, op := Op.binOp BinOp.gtr 3 (Operand.tmp 135) (Operand.const (Value.int IntKind.i64 0)) 3, type := 4, pos := "more.go:60", after := #[{ on := 20, ground := Ground.data }, { on := 10, ground := Ground.guard }], guard := some (10, false) } : Oper)) (v := ?v5x21) rfl (by kernel_rfl) (by kernel_rfl) (by kernel_rfl) (fun _ _ _ h => h) (Or.inl ⟨by rfl, ?hy5x21⟩) hHeld ?_
                    case hy5x21 => ((intro w hSw); (try dsimp only at hSw); go_simp; try with_reducible rfl)
                    try simp only [Act.put, List.setIfInBounds_toArray, List.set_cons_zero, List.set_cons_succ]
                    refine wpAnyH_ready (rs := [15]) (by kernel_rfl) (by simp) ?_
                    refine AllReadyH.cons (o := ({ dst := some 130, op := Op.call { callee := Callee.value (Operand.func 18), args := #[Operand.tmp 129], argTypes := #[23] }, type := 4, pos := "more.go:60", after := #[{ on := 14, ground := Ground.data }, { on := 10, ground := Ground.chain }, { on := 10, ground := Ground.guard }], guard := some (10, false) } : Oper)) rfl (fun K hK => ?_) AllReadyH.nil
                    go_simp
                    go_at_call 18
                    refine (CI _).out.mono ?_
                    rintro e wi ⟨rfl, hb⟩
                    try go_wp2_with fail
                    refine hK.out _ _ ?_ (fun hHeld2 => ?_)
                    · try dsimp only
                      try dsimp only at hHeld
                      go_split_ands
                      refine ⟨?_, ?_, ?_, ?_, ?_, ?_, ?_⟩
                      all_goals first
                        | exact keepc hb (B := wr.heap.size) (by assumption) (by assumption) (by assumption)
                        | exact Nat.le_trans (by assumption) hb.size
                        | exact Below.link (by assumption) hb
                    clear hK K hHeld
                    try simp only [Act.put, List.setIfInBounds_toArray, List.set_cons_zero, List.set_cons_succ]
                    refine wpAnyH_take (i := 22) (oi := ({ dst := some 137, op := Op.move (Operand.tmp 136), type := 4, pos := "more.go:60", after := #[{ on := 21, ground := Ground.data }, { on := 15, ground := Ground.chain }, { on := 10, ground := Ground.guard }], guard := some (10, false) } : Oper)) (v := ?v5x22) rfl (by kernel_rfl) (by kernel_rfl) (by kernel_rfl) (fun _ _ _ h => h) (Or.inl ⟨by rfl, ?hy5x22⟩) hHeld2 ?_
                    case hy5x22 => ((intro w hSw); (try dsimp only at hSw); go_simp; try with_reducible rfl)
                    try simp only [Act.put, List.setIfInBounds_toArray, List.set_cons_zero, List.set_cons_succ]
                    refine wpAnyH_take (i := 23) (oi := ({ dst := some 138, op := Op.move (Operand.tmp 0), type := 34, pos := "more.go:60", after := #[{ on := 22, ground := Ground.guard }], guard := some (22, false) } : Oper)) (v := undef) rfl (by kernel_rfl) (by kernel_rfl) (by kernel_rfl) (fun _ _ _ h => h) (Or.inr ⟨by rfl, rfl⟩) hHeld2 ?_
                    try simp only [Act.put, List.setIfInBounds_toArray, List.set_cons_zero, List.set_cons_succ]
                    refine wpAnyH_take (i := 24) (oi := ({ dst := some 139, op := Op.move (Operand.tmp 19), type := 3, pos := "more.go:60", after := #[{ on := 22, ground := Ground.guard }], guard := some (22, false) } : Oper)) (v := undef) rfl (by kernel_rfl) (by kernel_rfl) (by kernel_rfl) (fun _ _ _ h => h) (Or.inr ⟨by rfl, rfl⟩) hHeld2 ?_
                    try simp only [Act.put, List.setIfInBounds_toArray, List.set_cons_zero, List.set_cons_succ]
                    refine wpAnyH_take (i := 25) (oi := ({ dst := some 140, op := Op.indexAddr 34 (Operand.tmp 138) (Operand.tmp 139), type := 0, pos := "more.go:60", after := #[{ on := 23, ground := Ground.data }, { on := 24, ground := Ground.data }, { on := 22, ground := Ground.guard }], guard := some (22, false) } : Oper)) (v := undef) rfl (by kernel_rfl) (by kernel_rfl) (by kernel_rfl) (fun _ _ _ h => h) (Or.inr ⟨by rfl, rfl⟩) hHeld2 ?_
                    try simp only [Act.put, List.setIfInBounds_toArray, List.set_cons_zero, List.set_cons_succ]
                    refine wpAnyH_take (i := 26) (oi := ({ dst := some 141, op := Op.fieldAddr 23 (Operand.tmp 140) 1, type := 0, pos := "more.go:60", after := #[{ on := 25, ground := Ground.data }, { on := 22, ground := Ground.guard }], guard := some (22, false) } : Oper)) (v := undef) rfl (by kernel_rfl) (by kernel_rfl) (by kernel_rfl) (fun _ _ _ h => h) (Or.inr ⟨by rfl, rfl⟩) hHeld2 ?_
                    try simp only [Act.put, List.setIfInBounds_toArray, List.set_cons_zero, List.set_cons_succ]
                    refine wpAnyH_take (i := 27) (oi := ({ dst := some 142, op := Op.load 9 (Operand.tmp 141), type := 9, pos := "more.go:60", after := #[{ on := 26, ground := Ground.data }, { on := 22, ground := Ground.guard }], guard := some (22, false) } : Oper)) (v := undef) rfl (by kernel_rfl) (by kernel_rfl) (by kernel_rfl) (fun _ _ _ h => h) (Or.inr ⟨by rfl, rfl⟩) hHeld2 ?_
                    try simp only [Act.put, List.setIfInBounds_toArray, List.set_cons_zero, List.set_cons_succ]
                    refine wpAnyH_take (i := 28) (oi := ({ dst := some 143, op := Op.binOp BinOp.neq 9 (Operand.tmp 142) (Operand.const (Value.string { data := #[] })) 9, type := 4, pos := "more.go:60", after := #[{ on := 27, ground := Ground.data }, { on := 22, ground := Ground.guard }], guard := some (22, false) } : Oper)) (v := undef) rfl (by kernel_rfl) (by kernel_rfl) (by kernel_rfl) (fun _ _ _ h => h) (Or.inr ⟨by rfl, rfl⟩) hHeld2 ?_
                    try simp only [Act.put, List.setIfInBounds_toArray, List.set_cons_zero, List.set_cons_succ]
                    refine wpAnyH_take (i := 29) (oi := ({ dst := some 144, op := Op.pick (Operand.tmp 137) (Operand.const (Value.bool true)) (Operand.tmp 143), type := 4, pos := "more.go:60", after := #[{ on := 22, ground := Ground.data }, { on := 28, ground := Ground.data }, { on := 10, ground := Ground.guard }], guard := some (10, false) } : Oper)) (v := ?v5x29) rfl (by kernel_rfl) (by kernel_rfl) (by kernel_rfl) (fun _ _ _ h => h) (Or.inl ⟨by rfl, ?hy5x29⟩) hHeld2 ?_
                    case hy5x29 => ((intro w hSw); (try dsimp only at hSw); go_simp; try with_reducible rfl)
                    try simp only [Act.put, List.setIfInBounds_toArray, List.set_cons_zero, List.set_cons_succ]
                    refine wpAnyH_take (i := 30) (oi := ({ dst := some 145, op := Op.binOp BinOp.neq 4 (Operand.tmp 130) (Operand.tmp 144) 4, type := 4, pos := "more.go:60", after := #[{ on := 15, ground := Ground.data }, { on := 29, ground := Ground.data }, { on := 10, ground := Ground.guard }], guard := some (10, false) } : Oper)) (v := ?v5x30) rfl (by kernel_rfl) (by kernel_rfl) (by kernel_rfl) (fun _ _ _ h => h) (Or.inl ⟨by rfl, ?hy5x30⟩) hHeld2 ?_
                    case hy5x30 => ((intro w hSw); (try dsimp only at hSw); go_simp; try with_reducible rfl)
                    try simp only [Act.put, List.setIfInBounds_toArray, List.set_cons_zero, List.set_cons_succ]
                    refine wpAnyH_take (i := 31) (oi := ({ dst := some 146, op := Op.pick (Operand.tmp 125) (Operand.const (Value.bool true)) (Operand.tmp 145), type := 4, pos := "more.go:60", after := #[{ on := 10, ground := Ground.data }, { on := 30, ground := Ground.data }], guard := none } : Oper)) (v := ?v5x31) rfl (by kernel_rfl) (by kernel_rfl) (by kernel_rfl) (fun _ _ _ h => h) (Or.inl ⟨by rfl, ?hy5x31⟩) hHeld2 ?_
                    case hy5x31 => ((intro w hSw); (try dsimp only at hSw); go_simp; try with_reducible rfl)
                    try simp only [Act.put, List.setIfInBounds_toArray, List.set_cons_zero, List.set_cons_succ]
                    refine wpAnyH_done (by kernel_rfl) ?_ _
                    try dsimp only at hHeld2
                    go_split_ands
                    go_wp2
                    go_roundg (gk - 1)
                    case measure => exact hgg
                    case rel => exact ⟨k2 + 1, by go_num, by omega, Below.link HBW.out (by assumption)⟩
                  · go_wp2_with fail
                    refine wp_region_held_drew (S := (fun w' => w'.cell? ⟨N, 0, none⟩ = some (.slice (some ⟨p2, o3, none⟩) n c2) ∧ w'.cell? ⟨p1, o1 + k2 * 2, none⟩ = some (.int .i64 2) ∧ w'.cell? ⟨p1, o1 + k2 * 2 + 1, none⟩ = some (.string qn) ∧ w'.cell? ⟨p2, o3 + k2 * 2, none⟩ = some (.int .i64 2) ∧ w'.cell? ⟨p2, o3 + k2 * 2 + 1, none⟩ = some (.string qn) ∧ wr.heap.size ≤ w'.heap.size ∧ Below wr.heap.size wr w')) (by kernel_rfl) ⟨n0, x0, x1, y0, y1, Nat.le_refl _, (Below.refl _ _).drew⟩ (fun hHeld => ?_)
                    refine wpAnyH_take (i := 0) (oi := ({ dst := some 115, op := Op.fieldAddr 36 (Operand.tmp 17) 0, type := 0, pos := "more.go:60", after := #[], guard := none } : Oper)) (v := ?v6x0) rfl (by kernel_rfl) (by kernel_rfl) (by kernel_rfl) (fun _ _ _ h => h) (Or.inl ⟨by rfl, ?hy6x0⟩) hHeld ?_
                    case hy6x0 => ((intro w hSw); (try dsimp only at hSw); go_simp; try with_reducible rfl)
                    try simp only [Act.put, List.setIfInBounds_toArray, List.set_cons_zero, List.set_cons_succ]
                    refine wpAnyH_take (i := 1) (oi := ({ dst := some 116, op := Op.load 34 (Operand.tmp 115), type := 34, pos := "more.go:60", after := #[{ on := 0, ground := Ground.data }], guard := none } : Oper)) (v := ?v6x1) rfl (by kernel_rfl) (by kernel_rfl) (by kernel_rfl) (fun _ _ _ h => h) (Or.inl ⟨by rfl, ?hy6x1⟩) hHeld ?_
                    case hy6x1 => ((intro w hSw); (try dsimp only at hSw); go_simp; try with_reducible rfl)
                    try simp only [Act.put, List.setIfInBounds_toArray, List.set_cons_zero, List.set_cons_succ]
                    refine wpAnyH_take (i := 2) (oi := ({ dst := some 117, op := Op.move (Operand.tmp 19), type := 3, pos := "more.go:60", after := #[], guard := none } : Oper)) (v := ?v6x2) rfl (by kernel_rfl) (by kernel_rfl) (by kernel_rfl) (fun _ _ _ h => h) (Or.inl ⟨by rfl, ?hy6x2⟩) hHeld ?_
                    case hy6x2 => ((intro w hSw); (try dsimp only at hSw); go_simp; try with_reducible rfl)
                    try simp only [Act.put, List.setIfInBounds_toArray, List.set_cons_zero, List.set_cons_succ]
                    refine wpAnyH_take (i := 3) (oi := ({ dst := some 118, op := Op.indexAddr 34 (Operand.tmp 116) (Operand.tmp 117), type := 0, pos := "more.go:60", after := #[{ on := 1, ground := Ground.data }, { on := 2, ground := Ground.data }], guard := none } : Oper)) (v := ?v6x3) rfl (by kernel_rfl) (by kernel_rfl) (by kernel_rfl) (fun _ _ _ h => h) (Or.inl ⟨by rfl, ?hy6x3⟩) hHeld ?_
                    case hy6x3 => ((intro w hSw); (try dsimp only at hSw); go_simp; try with_reducible rfl)
                    try simp only [Act.put, List.setIfInBounds_toArray, List.set_cons_zero, List.set_cons_succ]
                    refine wpAnyH_take (i := 4) (oi := ({ dst := some 119, op := Op.load 23 (Operand.tmp 118), type := 23, pos := "more.go:60", after := #[{ on := 3, ground := Ground.data }], guard := none } : Oper)) (v := ?v6x4) rfl (by kernel_rfl) (by kernel_rfl) (by kernel_rfl) (fun _ _ _ h => h) (Or.inl ⟨by rfl, ?hy6x4⟩) hHeld ?_
                    case hy6x4 => ((intro w hSw); (try dsimp only at hSw); go_simp; try with_reducible rfl)
                    try simp only [Act.put, List.setIfInBounds_toArray, List.set_cons_zero, List.set_cons_succ]
                    refine wpAnyH_take (i := 5) (oi := ({ dst := some 120, op := Op.move (Operand.tmp 0), type := 34, pos := "more.go:60", after := #[], guard := none } : Oper)) (v := ?v6x5) rfl (by kernel_rfl) (by kernel_rfl) (by kernel_rfl) (fun _ _ _ h => h) (Or.inl ⟨by rfl, ?hy6x5⟩) hHeld ?_
                    case hy6x5 => ((intro w hSw); (try dsimp only at hSw); go_simp; try with_reducible rfl)
                    try simp only [Act.put, List.setIfInBounds_toArray, List.set_cons_zero, List.set_cons_succ]
                    refine wpAnyH_take (i := 6) (oi := ({ dst := some 121, op := Op.move (Operand.tmp 19), type := 3, pos := "more.go:60", after := #[], guard := none } : Oper)) (v := ?v6x6) rfl (by kernel_rfl) (by kernel_rfl) (by kernel_rfl) (fun _ _ _ h => h) (Or.inl ⟨by rfl, ?hy6x6⟩) hHeld ?_
                    case hy6x6 => ((intro w hSw); (try dsimp only at hSw); go_simp; try with_reducible rfl)
                    try simp only [Act.put, List.setIfInBounds_toArray, List.set_cons_zero, List.set_cons_succ]
                    refine wpAnyH_take (i := 7) (oi := ({ dst := some 122, op := Op.indexAddr 34 (Operand.tmp 120) (Operand.tmp 121), type := 0, pos := "more.go:60", after := #[{ on := 5, ground := Ground.data }, { on := 6, ground := Ground.data }], guard := none } : Oper)) (v := ?v6x7) rfl (by kernel_rfl) (by kernel_rfl) (by kernel_rfl) (fun _ _ _ h => h) (Or.inl ⟨by rfl, ?hy6x7⟩) hHeld ?_
                    case hy6x7 => ((intro w hSw); (try dsimp only at hSw); go_simp; try with_reducible rfl)
                    try simp only [Act.put, List.setIfInBounds_toArray, List.set_cons_zero, List.set_cons_succ]
                    refine wpAnyH_take (i := 8) (oi := ({ dst := some 123, op := Op.load 23 (Operand.tmp 122), type := 23, pos := "more.go:60", after := #[{ on := 7, ground := Ground.data }], guard := none } : Oper)) (v := ?v6x8) rfl (by kernel_rfl) (by kernel_rfl) (by kernel_rfl) (fun _ _ _ h => h) (Or.inl ⟨by rfl, ?hy6x8⟩) hHeld ?_
                    case hy6x8 => ((intro w hSw); (try dsimp only at hSw); go_simp; try with_reducible rfl)
                    try simp only [Act.put, List.setIfInBounds_toArray, List.set_cons_zero, List.set_cons_succ]
                    refine wpAnyH_take (i := 9) (oi := ({ dst := some 124, op := Op.binOp BinOp.neq 23 (Operand.tmp 119) (Operand.tmp 123) 23, type := 4, pos := "more.go:60", after := #[{ on := 4, ground := Ground.data }, { on := 8, ground := Ground.data }], guard := none } : Oper)) (v := ?v6x9) rfl (by kernel_rfl) (by kernel_rfl) (by kernel_rfl) (fun _ _ _ h => h) (Or.inl ⟨by rfl, ?hy6x9⟩) hHeld ?_
                    case hy6x9 => ((intro w hSw); (try dsimp only at hSw); go_simp; try with_reducible rfl)
                    try simp only [Act.put, List.setIfInBounds_toArray, List.set_cons_zero, List.set_cons_succ]
                    refine wpAnyH_take (i := 10) (oi := ({ dst := some 125, op := Op.move (Operand.tmp 124), type := 4, pos := "more.go:60", after := #[{ on := 9, ground := Ground.data }], guard := none } : Oper)) (v := ?v6x10) rfl (by kernel_rfl) (by kernel_rfl) (by kernel_rfl) (fun _ _ _ h => h) (Or.inl ⟨by rfl, ?hy6x10⟩) hHeld ?_
                    case hy6x10 => ((intro w hSw); (try dsimp only at hSw); go_simp; try with_reducible rfl)
                    try simp only [Act.put, List.setIfInBounds_toArray, List.set_cons_zero, List.set_cons_succ]
                    refine wpAnyH_take (i := 11) (oi := ({ dst := some 126, op := Op.move (Operand.tmp 0), type := 34, pos := "more.go:60", after := #[{ on := 10, ground := Ground.guard }], guard := some (10, false) } : Oper)) (v := ?v6x11) rfl (by kernel_rfl) (by kernel_rfl) (by kernel_rfl) (fun _ _ _ h => h) (Or.inl ⟨by rfl, ?hy6x11⟩) hHeld ?_
                    case hy6x11 => ((intro w hSw); (try dsimp only at hSw); go_simp; try with_reducible rfl)
                    try simp only [Act.put, List.setIfInBounds_toArray, List.set_cons_zero, List.set_cons_succ]
                    refine wpAnyH_take (i := 12) (oi := ({ dst := some 127, op := Op.move (Operand.tmp 19), type := 3, pos := "more.go:60", after := #[{ on := 10, ground := Ground.guard }], guard := some (10, false) } : Oper)) (v := ?v6x12) rfl (by kernel_rfl) (by kernel_rfl) (by kernel_rfl) (fun _ _ _ h => h) (Or.inl ⟨by rfl, ?hy6x12⟩) hHeld ?_
                    case hy6x12 => ((intro w hSw); (try dsimp only at hSw); go_simp; try with_reducible rfl)
                    try simp only [Act.put, List.setIfInBounds_toArray, List.set_cons_zero, List.set_cons_succ]
                    refine wpAnyH_take (i := 13) (oi := ({ dst := some 128, op := Op.indexAddr 34 (Operand.tmp 126) (Operand.tmp 127), type := 0, pos := "more.go:60", after := #[{ on := 11, ground := Ground.data }, { on := 12, ground := Ground.data }, { on := 10, ground := Ground.guard }], guard := some (10, false) } : Oper)) (v := ?v6x13) rfl (by kernel_rfl) (by kernel_rfl) (by kernel_rfl) (fun _ _ _ h => h) (Or.inl ⟨by rfl, ?hy6x13⟩) hHeld ?_
                    case hy6x13 => ((intro w hSw); (try dsimp only at hSw); go_simp; try with_reducible rfl)
                    try simp only [Act.put, List.setIfInBounds_toArray, List.set_cons_zero, List.set_cons_succ]
                    refine wpAnyH_take (i := 14) (oi := ({ dst := some 129, op := Op.load 23 (Operand.tmp 128), type := 23, pos := "more.go:60", after := #[{ on := 13, ground := Ground.data }, { on := 10, ground := Ground.guard }], guard := some (10, false) } : Oper)) (v := ?v6x14) rfl (by kernel_rfl) (by kernel_rfl) (by kernel_rfl) (fun _ _ _ h => h) (Or.inl ⟨by rfl, ?hy6x14⟩) hHeld ?_
                    case hy6x14 => ((intro w hSw); (try dsimp only at hSw); go_simp; try with_reducible rfl)
                    try simp only [Act.put, List.setIfInBounds_toArray, List.set_cons_zero, List.set_cons_succ]
                    refine wpAnyH_take (i := 16) (oi := ({ dst := some 131, op := Op.move (Operand.tmp 0), type := 34, pos := "more.go:60", after := #[{ on := 10, ground := Ground.guard }], guard := some (10, false) } : Oper)) (v := ?v6x16) rfl (by kernel_rfl) (by kernel_rfl) (by kernel_rfl) (fun _ _ _ h => h) (Or.inl ⟨by rfl, ?hy6x16⟩) hHeld ?_
                    case hy6x16 => ((intro w hSw); (try dsimp only at hSw); go_simp; try with_reducible rfl)
                    try simp only [Act.put, List.setIfInBounds_toArray, List.set_cons_zero, List.set_cons_succ]
                    refine wpAnyH_take (i := 17) (oi := ({ dst := some 132, op := Op.move (Operand.tmp 19), type := 3, pos := "more.go:60", after := #[{ on := 10, ground := Ground.guard }], guard := some (10, false) } : Oper)) (v := ?v6x17) rfl (by kernel_rfl) (by kernel_rfl) (by kernel_rfl) (fun _ _ _ h => h) (Or.inl ⟨by rfl, ?hy6x17⟩) hHeld ?_
                    case hy6x17 => ((intro w hSw); (try dsimp only at hSw); go_simp; try with_reducible rfl)
                    try simp only [Act.put, List.setIfInBounds_toArray, List.set_cons_zero, List.set_cons_succ]
                    refine wpAnyH_take (i := 18) (oi := ({ dst := some 133, op := Op.indexAddr 34 (Operand.tmp 131) (Operand.tmp 132), type := 0, pos := "more.go:60", after := #[{ on := 16, ground := Ground.data }, { on := 17, ground := Ground.data }, { on := 10, ground := Ground.guard }], guard := some (10, false) } : Oper)) (v := ?v6x18) rfl (by kernel_rfl) (by kernel_rfl) (by kernel_rfl) (fun _ _ _ h => h) (Or.inl ⟨by rfl, ?hy6x18⟩) hHeld ?_
                    case hy6x18 => ((intro w hSw); (try dsimp only at hSw); go_simp; try with_reducible rfl)
                    try simp only [Act.put, List.setIfInBounds_toArray, List.set_cons_zero, List.set_cons_succ]
                    refine wpAnyH_take (i := 19) (oi := ({ dst := some 134, op := Op.fieldAddr 23 (Operand.tmp 133) 0, type := 0, pos := "more.go:60", after := #[{ on := 18, ground := Ground.data }, { on := 10, ground := Ground.guard }], guard := some (10, false) } : Oper)) (v := ?v6x19) rfl (by kernel_rfl) (by kernel_rfl) (by kernel_rfl) (fun _ _ _ h => h) (Or.inl ⟨by rfl, ?hy6x19⟩) hHeld ?_
                    case hy6x19 => ((intro w hSw); (try dsimp only at hSw); go_simp; try with_reducible rfl)
                    try simp only [Act.put, List.setIfInBounds_toArray, List.set_cons_zero, List.set_cons_succ]
                    refine wpAnyH_take (i := 20) (oi := ({ dst := some 135, op := Op.load 3 (Operand.tmp 134), type := 3, pos := "more.go:60", after := #[{ on := 19, ground := Ground.data }, { on := 10, ground := Ground.guard }], guard := some (10, false) } : Oper)) (v := ?v6x20) rfl (by kernel_rfl) (by kernel_rfl) (by kernel_rfl) (fun _ _ _ h => h) (Or.inl ⟨by rfl, ?hy6x20⟩) hHeld ?_
                    case hy6x20 => ((intro w hSw); (try dsimp only at hSw); go_simp; try with_reducible rfl)
                    try simp only [Act.put, List.setIfInBounds_toArray, List.set_cons_zero, List.set_cons_succ]
                    refine wpAnyH_take (i := 21) (oi := ({ dst := some 136, op := Op.binOp BinOp.gtr 3 (Operand.tmp 135) (Operand.const (Value.int IntKind.i64 0)) 3, type := 4, pos := "more.go:60", after := #[{ on := 20, ground := Ground.data }, { on := 10, ground := Ground.guard }], guard := some (10, false) } : Oper)) (v := ?v6x21) rfl (by kernel_rfl) (by kernel_rfl) (by kernel_rfl) (fun _ _ _ h => h) (Or.inl ⟨by rfl, ?hy6x21⟩) hHeld ?_
                    case hy6x21 => ((intro w hSw); (try dsimp only at hSw); go_simp; try with_reducible rfl)
                    try simp only [Act.put, List.setIfInBounds_toArray, List.set_cons_zero, List.set_cons_succ]
                    refine wpAnyH_ready (rs := [15]) (by kernel_rfl) (by simp) ?_
                    refine AllReadyH.cons (o := ({ dst := some 130, op := Op.call { callee := Callee.value (Operand.func 18), args := #[Operand.tmp 129], argTypes := #[23] }, type := 4, pos := "more.go:60", after := #[{ on := 14, ground := Ground.data }, { on := 10, ground := Ground.chain }, { on := 10, ground := Ground.guard }], guard := some (10, false) } : Oper)) rfl (fun K hK => ?_) AllReadyH.nil
                    go_simp
                    go_at_call 18
                    refine (CI _).out.mono ?_
                    rintro e wi ⟨rfl, hb⟩
                    try go_wp2_with fail
                    refine hK.out _ _ ?_ (fun hHeld2 => ?_)
                    · try dsimp only
                      try dsimp only at hHeld
                      go_split_ands
                      refine ⟨?_, ?_, ?_, ?_, ?_, ?_, ?_⟩
                      all_goals first
                        | exact keepc hb (B := wr.heap.size) (by assumption) (by assumption) (by assumption)
                        | exact Nat.le_trans (by assumption) hb.size
                        | exact Below.link (by assumption) hb
                    clear hK K hHeld
                    try simp only [Act.put, List.setIfInBounds_toArray, List.set_cons_zero, List.set_cons_succ]
                    refine wpAnyH_take (i := 22) (oi := ({ dst := some 137, op := Op.move (Operand.tmp 136), type := 4, pos := "more.go:60", after := #[{ on := 21, ground := Ground.data }, { on := 15, ground := Ground.chain }, { on := 10, ground := Ground.guard }], guard := some (10, false) } : Oper)) (v := ?v6x22) rfl (by kernel_rfl) (by kernel_rfl) (by kernel_rfl) (fun _ _ _ h => h) (Or.inl ⟨by rfl, ?hy6x22⟩) hHeld2 ?_
                    case hy6x22 => ((intro w hSw); (try dsimp only at hSw); go_simp; try with_reducible rfl)
                    try simp only [Act.put, List.setIfInBounds_toArray, List.set_cons_zero, List.set_cons_succ]
                    refine wpAnyH_take (i := 23) (oi := ({ dst := some 138, op := Op.move (Operand.tmp 0), type := 34, pos := "more.go:60", after := #[{ on := 22, ground := Ground.guard }], guard := some (22, false) } : Oper)) (v := undef) rfl (by kernel_rfl) (by kernel_rfl) (by kernel_rfl) (fun _ _ _ h => h) (Or.inr ⟨by rfl, rfl⟩) hHeld2 ?_
                    try simp only [Act.put, List.setIfInBounds_toArray, List.set_cons_zero, List.set_cons_succ]
                    refine wpAnyH_take (i := 24) (oi := ({ dst := some 139, op := Op.move (Operand.tmp 19), type := 3, pos := "more.go:60", after := #[{ on := 22, ground := Ground.guard }], guard := some (22, false) } : Oper)) (v := undef) rfl (by kernel_rfl) (by kernel_rfl) (by kernel_rfl) (fun _ _ _ h => h) (Or.inr ⟨by rfl, rfl⟩) hHeld2 ?_
                    try simp only [Act.put, List.setIfInBounds_toArray, List.set_cons_zero, List.set_cons_succ]
                    refine wpAnyH_take (i := 25) (oi := ({ dst := some 140, op := Op.indexAddr 34 (Operand.tmp 138) (Operand.tmp 139), type := 0, pos := "more.go:60", after := #[{ on := 23, ground := Ground.data }, { on := 24, ground := Ground.data }, { on := 22, ground := Ground.guard }], guard := some (22, false) } : Oper)) (v := undef) rfl (by kernel_rfl) (by kernel_rfl) (by kernel_rfl) (fun _ _ _ h => h) (Or.inr ⟨by rfl, rfl⟩) hHeld2 ?_
                    try simp only [Act.put, List.setIfInBounds_toArray, List.set_cons_zero, List.set_cons_succ]
                    refine wpAnyH_take (i := 26) (oi := ({ dst := some 141, op := Op.fieldAddr 23 (Operand.tmp 140) 1, type := 0, pos := "more.go:60", after := #[{ on := 25, ground := Ground.data }, { on := 22, ground := Ground.guard }], guard := some (22, false) } : Oper)) (v := undef) rfl (by kernel_rfl) (by kernel_rfl) (by kernel_rfl) (fun _ _ _ h => h) (Or.inr ⟨by rfl, rfl⟩) hHeld2 ?_
                    try simp only [Act.put, List.setIfInBounds_toArray, List.set_cons_zero, List.set_cons_succ]
                    refine wpAnyH_take (i := 27) (oi := ({ dst := some 142, op := Op.load 9 (Operand.tmp 141), type := 9, pos := "more.go:60", after := #[{ on := 26, ground := Ground.data }, { on := 22, ground := Ground.guard }], guard := some (22, false) } : Oper)) (v := undef) rfl (by kernel_rfl) (by kernel_rfl) (by kernel_rfl) (fun _ _ _ h => h) (Or.inr ⟨by rfl, rfl⟩) hHeld2 ?_
                    try simp only [Act.put, List.setIfInBounds_toArray, List.set_cons_zero, List.set_cons_succ]
                    refine wpAnyH_take (i := 28) (oi := ({ dst := some 143, op := Op.binOp BinOp.neq 9 (Operand.tmp 142) (Operand.const (Value.string { data := #[] })) 9, type := 4, pos := "more.go:60", after := #[{ on := 27, ground := Ground.data }, { on := 22, ground := Ground.guard }], guard := some (22, false) } : Oper)) (v := undef) rfl (by kernel_rfl) (by kernel_rfl) (by kernel_rfl) (fun _ _ _ h => h) (Or.inr ⟨by rfl, rfl⟩) hHeld2 ?_
                    try simp only [Act.put, List.setIfInBounds_toArray, List.set_cons_zero, List.set_cons_succ]
                    refine wpAnyH_take (i := 29) (oi := ({ dst := some 144, op := Op.pick (Operand.tmp 137) (Operand.const (Value.bool true)) (Operand.tmp 143), type := 4, pos := "more.go:60", after := #[{ on := 22, ground := Ground.data }, { on := 28, ground := Ground.data }, { on := 10, ground := Ground.guard }], guard := some (10, false) } : Oper)) (v := ?v6x29) rfl (by kernel_rfl) (by kernel_rfl) (by kernel_rfl) (fun _ _ _ h => h) (Or.inl ⟨by rfl, ?hy6x29⟩) hHeld2 ?_
                    case hy6x29 => ((intro w hSw); (try dsimp only at hSw); go_simp; try with_reducible rfl)
                    try simp only [Act.put, List.setIfInBounds_toArray, List.set_cons_zero, List.set_cons_succ]
                    refine wpAnyH_take (i := 30) (oi := ({ dst := some 145, op := Op.binOp BinOp.neq 4 (Operand.tmp 130) (Operand.tmp 144) 4, type := 4, pos := "more.go:60", after := #[{ on := 15, ground := Ground.data }, { on := 29, ground := Ground.data }, { on := 10, ground := Ground.guard }], guard := some (10, false) } : Oper)) (v := ?v6x30) rfl (by kernel_rfl) (by kernel_rfl) (by kernel_rfl) (fun _ _ _ h => h) (Or.inl ⟨by rfl, ?hy6x30⟩) hHeld2 ?_
                    case hy6x30 => ((intro w hSw); (try dsimp only at hSw); go_simp; try with_reducible rfl)
                    try simp only [Act.put, List.setIfInBounds_toArray, List.set_cons_zero, List.set_cons_succ]
                    refine wpAnyH_take (i := 31) (oi := ({ dst := some 146, op := Op.pick (Operand.tmp 125) (Operand.const (Value.bool true)) (Operand.tmp 145), type := 4, pos := "more.go:60", after := #[{ on := 10, ground := Ground.data }, { on := 30, ground := Ground.data }], guard := none } : Oper)) (v := ?v6x31) rfl (by kernel_rfl) (by kernel_rfl) (by kernel_rfl) (fun _ _ _ h => h) (Or.inl ⟨by rfl, ?hy6x31⟩) hHeld2 ?_
                    case hy6x31 => ((intro w hSw); (try dsimp only at hSw); go_simp; try with_reducible rfl)
                    try simp only [Act.put, List.setIfInBounds_toArray, List.set_cons_zero, List.set_cons_succ]
                    refine wpAnyH_done (by kernel_rfl) ?_ _
                    try dsimp only at hHeld2
                    go_split_ands
                    go_wp2
                    go_roundg (gk - 1)
                    case measure => exact hgg
                    case rel => exact ⟨k2 + 1, by go_num, by omega, Below.link HBW.out (by assumption)⟩
                  · go_wp2_with fail
                    refine wp_region_held_drew (S := (fun w' => w'.cell? ⟨N, 0, none⟩ = some (.slice (some ⟨p2, o3, none⟩) n c2) ∧ w'.cell? ⟨p1, o1 + k2 * 2, none⟩ = some (.int .i64 3) ∧ w'.cell? ⟨p1, o1 + k2 * 2 + 1, none⟩ = some (.string qn) ∧ w'.cell? ⟨p2, o3 + k2 * 2, none⟩ = some (.int .i64 3) ∧ w'.cell? ⟨p2, o3 + k2 * 2 + 1, none⟩ = some (.string qn) ∧ wr.heap.size ≤ w'.heap.size ∧ Below wr.heap.size wr w')) (by kernel_rfl) ⟨n0, x0, x1, y0, y1, Nat.le_refl _, (Below.refl _ _).drew⟩ (fun hHeld => ?_)
                    refine wpAnyH_take (i := 0) (oi := ({ dst := some 115, op := Op.fieldAddr 36 (Operand.tmp 17) 0, type := 0, pos := "more.go:60", after := #[], guard := none } : Oper)) (v := ?v7x0) rfl (by kernel_rfl) (by kernel_rfl) (by kernel_rfl) (fun _ _ _ h => h) (Or.inl ⟨by rfl, ?hy7x0⟩) hHeld ?_
                    case hy7x0 => ((intro w hSw); (try dsimp only at hSw); go_simp; try with_reducible rfl)
                    try simp only [Act.put, List.setIfInBounds_toArray, List.set_cons_zero, List.set_cons_succ]
                    refine wpAnyH_take (i := 1) (oi := ({ dst := some 116, op := Op.load 34 (Operand.tmp 115), type := 34, pos := "more.go:60", after := #[{ on := 0, ground := Ground.data }], guard := none } : Oper)) (v := ?v7x1) rfl (by kernel_rfl) (by kernel_rfl) (by kernel_rfl) (fun _ _ _ h => h) (Or.inl ⟨by rfl, ?hy7x1⟩) hHeld ?_
                    case hy7x1 => ((intro w hSw); (try dsimp only at hSw); go_simp; try with_reducible rfl)
                    try simp only [Act.put, List.setIfInBounds_toArray, List.set_cons_zero, List.set_cons_succ]
                    refine wpAnyH_take (i := 2) (oi := ({ dst := some 117, op := Op.move (Operand.tmp 19), type := 3, pos := "more.go:60", after := #[], guard := none } : Oper)) (v := ?v7x2) rfl (by kernel_rfl) (by kernel_rfl) (by kernel_rfl) (fun _ _ _ h => h) (Or.inl ⟨by rfl, ?hy7x2⟩) hHeld ?_
                    case hy7x2 => ((intro w hSw); (try dsimp only at hSw); go_simp; try with_reducible rfl)
                    try simp only [Act.put, List.setIfInBounds_toArray, List.set_cons_zero, List.set_cons_succ]
                    refine wpAnyH_take (i := 3) (oi := ({ dst := some 118, op := Op.indexAddr 34 (Operand.tmp 116) (Operand.tmp 117), type := 0, pos := "more.go:60", after := #[{ on := 1, ground := Ground.data }, { on := 2, ground := Ground.data }], guard := none } : Oper)) (v := ?v7x3) rfl (by kernel_rfl) (by kernel_rfl) (by kernel_rfl) (fun _ _ _ h => h) (Or.inl ⟨by rfl, ?hy7x3⟩) hHeld ?_
                    case hy7x3 => ((intro w hSw); (try dsimp only at hSw); go_simp; try with_reducible rfl)
                    try simp only [Act.put, List.setIfInBounds_toArray, List.set_cons_zero, List.set_cons_succ]
                    refine wpAnyH_take (i := 4) (oi := ({ dst := some 119, op := Op.load 23 (Operand.tmp 118), type := 23, pos := "more.go:60", after := #[{ on := 3, ground := Ground.data }], guard := none } : Oper)) (v := ?v7x4) rfl (by kernel_rfl) (by kernel_rfl) (by kernel_rfl) (fun _ _ _ h => h) (Or.inl ⟨by rfl, ?hy7x4⟩) hHeld ?_
                    case hy7x4 => ((intro w hSw); (try dsimp only at hSw); go_simp; try with_reducible rfl)
                    try simp only [Act.put, List.setIfInBounds_toArray, List.set_cons_zero, List.set_cons_succ]
                    refine wpAnyH_take (i := 5) (oi := ({ dst := some 120, op := Op.move (Operand.tmp 0), type := 34, pos := "more.go:60", after := #[], guard := none } : Oper)) (v := ?v7x5) rfl (by kernel_rfl) (by kernel_rfl) (by kernel_rfl) (fun _ _ _ h => h) (Or.inl ⟨by rfl, ?hy7x5⟩) hHeld ?_
                    case hy7x5 => ((intro w hSw); (try dsimp only at hSw); go_simp; try with_reducible rfl)
                    try simp only [Act.put, List.setIfInBounds_toArray, List.set_cons_zero, List.set_cons_succ]
                    refine wpAnyH_take (i := 6) (oi := ({ dst := some 121, op := Op.move (Operand.tmp 19), type := 3, pos := "more.go:60", after := #[], guard := none } : Oper)) (v := ?v7x6) rfl (by kernel_rfl) (by kernel_rfl) (by kernel_rfl) (fun _ _ _ h => h) (Or.inl ⟨by rfl, ?hy7x6⟩) hHeld ?_
                    case hy7x6 => ((intro w hSw); (try dsimp only at hSw); go_simp; try with_reducible rfl)
                    try simp only [Act.put, List.setIfInBounds_toArray, List.set_cons_zero, List.set_cons_succ]
                    refine wpAnyH_take (i := 7) (oi := ({ dst := some 122, op := Op.indexAddr 34 (Operand.tmp 120) (Operand.tmp 121), type := 0, pos := "more.go:60", after := #[{ on := 5, ground := Ground.data }, { on := 6, ground := Ground.data }], guard := none } : Oper)) (v := ?v7x7) rfl (by kernel_rfl) (by kernel_rfl) (by kernel_rfl) (fun _ _ _ h => h) (Or.inl ⟨by rfl, ?hy7x7⟩) hHeld ?_
                    case hy7x7 => ((intro w hSw); (try dsimp only at hSw); go_simp; try with_reducible rfl)
                    try simp only [Act.put, List.setIfInBounds_toArray, List.set_cons_zero, List.set_cons_succ]
                    refine wpAnyH_take (i := 8) (oi := ({ dst := some 123, op := Op.load 23 (Operand.tmp 122), type := 23, pos := "more.go:60", after := #[{ on := 7, ground := Ground.data }], guard := none } : Oper)) (v := ?v7x8) rfl (by kernel_rfl) (by kernel_rfl) (by kernel_rfl) (fun _ _ _ h => h) (Or.inl ⟨by rfl, ?hy7x8⟩) hHeld ?_
                    case hy7x8 => ((intro w hSw); (try dsimp only at hSw); go_simp; try with_reducible rfl)
                    try simp only [Act.put, List.setIfInBounds_toArray, List.set_cons_zero, List.set_cons_succ]
                    refine wpAnyH_take (i := 9) (oi := ({ dst := some 124, op := Op.binOp BinOp.neq 23 (Operand.tmp 119) (Operand.tmp 123) 23, type := 4, pos := "more.go:60", after := #[{ on := 4, ground := Ground.data }, { on := 8, ground := Ground.data }], guard := none } : Oper)) (v := ?v7x9) rfl (by kernel_rfl) (by kernel_rfl) (by kernel_rfl) (fun _ _ _ h => h) (Or.inl ⟨by rfl, ?hy7x9⟩) hHeld ?_
                    case hy7x9 => ((intro w hSw); (try dsimp only at hSw); go_simp; try with_reducible rfl)
                    try simp only [Act.put, List.setIfInBounds_toArray, List.set_cons_zero, List.set_cons_succ]
                    refine wpAnyH_take (i := 10) (oi := ({ dst := some 125, op := Op.move (Operand.tmp 124), type := 4, pos := "more.go:60", after := #[{ on := 9, ground := Ground.data }], guard := none } : Oper)) (v := ?v7x10) rfl (by kernel_rfl) (by kernel_rfl) (by kernel_rfl) (fun _ _ _ h => h) (Or.inl ⟨by rfl, ?hy7x10⟩) hHeld ?_
                    case hy7x10 => ((intro w hSw); (try dsimp only at hSw); go_simp; try with_reducible rfl)
                    try simp only [Act.put, List.setIfInBounds_toArray, List.set_cons_zero, List.set_cons_succ]
                    refine wpAnyH_take (i := 11) (oi := ({ dst := some 126, op := Op.move (Operand.tmp 0), type := 34, pos := "more.go:60", after := #[{ on := 10, ground := Ground.guard }], guard := some (10, false) } : Oper)) (v := ?v7x11) rfl (by kernel_rfl) (by kernel_rfl) (by kernel_rfl) (fun _ _ _ h => h) (Or.inl ⟨by rfl, ?hy7x11⟩) hHeld ?_
                    case hy7x11 => ((intro w hSw); (try dsimp only at hSw); go_simp; try with_reducible rfl)
                    try simp only [Act.put, List.setIfInBounds_toArray, List.set_cons_zero, List.set_cons_succ]
                    refine wpAnyH_take (i := 12) (oi := ({ dst := some 127, op := Op.move (Operand.tmp 19), type := 3, pos := "more.go:60", after := #[{ on := 10, ground := Ground.guard }], guard := some (10, false) } : Oper)) (v := ?v7x12) rfl (by kernel_rfl) (by kernel_rfl) (by kernel_rfl) (fun _ _ _ h => h) (Or.inl ⟨by rfl, ?hy7x12⟩) hHeld ?_
                    case hy7x12 => ((intro w hSw); (try dsimp only at hSw); go_simp; try with_reducible rfl)
                    try simp only [Act.put, List.setIfInBounds_toArray, List.set_cons_zero, List.set_cons_succ]
                    refine wpAnyH_take (i := 13) (oi := ({ dst := some 128, op := Op.indexAddr 34 (Operand.tmp 126) (Operand.tmp 127), type := 0, pos := "more.go:60", after := #[{ on := 11, ground := Ground.data }, { on := 12, ground := Ground.data }, { on := 10, ground := Ground.guard }], guard := some (10, false) } : Oper)) (v := ?v7x13) rfl (by kernel_rfl) (by kernel_rfl) (by kernel_rfl) (fun _ _ _ h => h) (Or.inl ⟨by rfl, ?hy7x13⟩) hHeld ?_
                    case hy7x13 => ((intro w hSw); (try dsimp only at hSw); go_simp; try with_reducible rfl)
                    try simp only [Act.put, List.setIfInBounds_toArray, List.set_cons_zero, List.set_cons_succ]
                    refine wpAnyH_take (i := 14) (oi := ({ dst := some 129, op := Op.load 23 (Operand.tmp 128), type := 23, pos := "more.go:60", after := #[{ on := 13, ground := Ground.data }, { on := 10, ground := Ground.guard }], guard := some (10, false) } : Oper)) (v := ?v7x14) rfl (by kernel_rfl) (by kernel_rfl) (by kernel_rfl) (fun _ _ _ h => h) (Or.inl ⟨by rfl, ?hy7x14⟩) hHeld ?_
                    case hy7x14 => ((intro w hSw); (try dsimp only at hSw); go_simp; try with_reducible rfl)
                    try simp only [Act.put, List.setIfInBounds_toArray, List.set_cons_zero, List.set_cons_succ]
                    refine wpAnyH_take (i := 16) (oi := ({ dst := some 131, op := Op.move (Operand.tmp 0), type := 34, pos := "more.go:60", after := #[{ on := 10, ground := Ground.guard }], guard := some (10, false) } : Oper)) (v := ?v7x16) rfl (by kernel_rfl) (by kernel_rfl) (by kernel_rfl) (fun _ _ _ h => h) (Or.inl ⟨by rfl, ?hy7x16⟩) hHeld ?_
                    case hy7x16 => ((intro w hSw); (try dsimp only at hSw); go_simp; try with_reducible rfl)
                    try simp only [Act.put, List.setIfInBounds_toArray, List.set_cons_zero, List.set_cons_succ]
                    refine wpAnyH_take (i := 17) (oi := ({ dst := some 132, op := Op.move (Operand.tmp 19), type := 3, pos := "more.go:60", after := #[{ on := 10, ground := Ground.guard }], guard := some (10, false) } : Oper)) (v := ?v7x17) rfl (by kernel_rfl) (by kernel_rfl) (by kernel_rfl) (fun _ _ _ h => h) (Or.inl ⟨by rfl, ?hy7x17⟩) hHeld ?_
                    case hy7x17 => ((intro w hSw); (try dsimp only at hSw); go_simp; try with_reducible rfl)
                    try simp only [Act.put, List.setIfInBounds_toArray, List.set_cons_zero, List.set_cons_succ]
                    refine wpAnyH_take (i := 18) (oi := ({ dst := some 133, op := Op.indexAddr 34 (Operand.tmp 131) (Operand.tmp 132), type := 0, pos := "more.go:60", after := #[{ on := 16, ground := Ground.data }, { on := 17, ground := Ground.data }, { on := 10, ground := Ground.guard }], guard := some (10, false) } : Oper)) (v := ?v7x18) rfl (by kernel_rfl) (by kernel_rfl) (by kernel_rfl) (fun _ _ _ h => h) (Or.inl ⟨by rfl, ?hy7x18⟩) hHeld ?_
                    case hy7x18 => ((intro w hSw); (try dsimp only at hSw); go_simp; try with_reducible rfl)
                    try simp only [Act.put, List.setIfInBounds_toArray, List.set_cons_zero, List.set_cons_succ]
                    refine wpAnyH_take (i := 19) (oi := ({ dst := some 134, op := Op.fieldAddr 23 (Operand.tmp 133) 0, type := 0, pos := "more.go:60", after := #[{ on := 18, ground := Ground.data }, { on := 10, ground := Ground.guard }], guard := some (10, false) } : Oper)) (v := ?v7x19) rfl (by kernel_rfl) (by kernel_rfl) (by kernel_rfl) (fun _ _ _ h => h) (Or.inl ⟨by rfl, ?hy7x19⟩) hHeld ?_
                    case hy7x19 => ((intro w hSw); (try dsimp only at hSw); go_simp; try with_reducible rfl)
                    try simp only [Act.put, List.setIfInBounds_toArray, List.set_cons_zero, List.set_cons_succ]
                    refine wpAnyH_take (i := 20) (oi := ({ dst := some 135, op := Op.load 3 (Operand.tmp 134), type := 3, pos := "more.go:60", after := #[{ on := 19, ground := Ground.data }, { on := 10, ground := Ground.guard }], guard := some (10, false) } : Oper)) (v := ?v7x20) rfl (by kernel_rfl) (by kernel_rfl) (by kernel_rfl) (fun _ _ _ h => h) (Or.inl ⟨by rfl, ?hy7x20⟩) hHeld ?_
                    case hy7x20 => ((intro w hSw); (try dsimp only at hSw); go_simp; try with_reducible rfl)
                    try simp only [Act.put, List.setIfInBounds_toArray, List.set_cons_zero, List.set_cons_succ]
                    refine wpAnyH_take (i := 21) (oi := ({ dst := some 136, op := Op.binOp BinOp.gtr 3 (Operand.tmp 135) (Operand.const (Value.int IntKind.i64 0)) 3, type := 4, pos := "more.go:60", after := #[{ on := 20, ground := Ground.data }, { on := 10, ground := Ground.guard }], guard := some (10, false) } : Oper)) (v := ?v7x21) rfl (by kernel_rfl) (by kernel_rfl) (by kernel_rfl) (fun _ _ _ h => h) (Or.inl ⟨by rfl, ?hy7x21⟩) hHeld ?_
                    case hy7x21 => ((intro w hSw); (try dsimp only at hSw); go_simp; try with_reducible rfl)
                    try simp only [Act.put, List.setIfInBounds_toArray, List.set_cons_zero, List.set_cons_succ]
                    refine wpAnyH_ready (rs := [15]) (by kernel_rfl) (by simp) ?_
                    refine AllReadyH.cons (o := ({ dst := some 130, op := Op.call { callee := Callee.value (Operand.func 18), args := #[Operand.tmp 129], argTypes := #[23] }, type := 4, pos := "more.go:60", after := #[{ on := 14, ground := Ground.data }, { on := 10, ground := Ground.chain }, { on := 10, ground := Ground.guard }], guard := some (10, false) } : Oper)) rfl (fun K hK => ?_) AllReadyH.nil
                    go_simp
                    go_at_call 18
                    refine (CI _).out.mono ?_
                    rintro e wi ⟨rfl, hb⟩
                    try go_wp2_with fail
                    refine hK.out _ _ ?_ (fun hHeld2 => ?_)
                    · try dsimp only
                      try dsimp only at hHeld
                      go_split_ands
                      refine ⟨?_, ?_, ?_, ?_, ?_, ?_, ?_⟩
                      all_goals first
                        | exact keepc hb (B := wr.heap.size) (by assumption) (by assumption) (by assumption)
                        | exact Nat.le_trans (by assumption) hb.size
                        | exact Below.link (by assumption) hb
                    clear hK K hHeld
                    try simp only [Act.put, List.setIfInBounds_toArray, List.set_cons_zero, List.set_cons_succ]
                    refine wpAnyH_take (i := 22) (oi := ({ dst := some 137, op := Op.move (Operand.tmp 136), type := 4, pos := "more.go:60", after := #[{ on := 21, ground := Ground.data }, { on := 15, ground := Ground.chain }, { on := 10, ground := Ground.guard }], guard := some (10, false) } : Oper)) (v := ?v7x22) rfl (by kernel_rfl) (by kernel_rfl) (by kernel_rfl) (fun _ _ _ h => h) (Or.inl ⟨by rfl, ?hy7x22⟩) hHeld2 ?_
                    case hy7x22 => ((intro w hSw); (try dsimp only at hSw); go_simp; try with_reducible rfl)
                    try simp only [Act.put, List.setIfInBounds_toArray, List.set_cons_zero, List.set_cons_succ]
                    refine wpAnyH_take (i := 23) (oi := ({ dst := some 138, op := Op.move (Operand.tmp 0), type := 34, pos := "more.go:60", after := #[{ on := 22, ground := Ground.guard }], guard := some (22, false) } : Oper)) (v := undef) rfl (by kernel_rfl) (by kernel_rfl) (by kernel_rfl) (fun _ _ _ h => h) (Or.inr ⟨by rfl, rfl⟩) hHeld2 ?_
                    try simp only [Act.put, List.setIfInBounds_toArray, List.set_cons_zero, List.set_cons_succ]
                    refine wpAnyH_take (i := 24) (oi := ({ dst := some 139, op := Op.move (Operand.tmp 19), type := 3, pos := "more.go:60", after := #[{ on := 22, ground := Ground.guard }], guard := some (22, false) } : Oper)) (v := undef) rfl (by kernel_rfl) (by kernel_rfl) (by kernel_rfl) (fun _ _ _ h => h) (Or.inr ⟨by rfl, rfl⟩) hHeld2 ?_
                    try simp only [Act.put, List.setIfInBounds_toArray, List.set_cons_zero, List.set_cons_succ]
                    refine wpAnyH_take (i := 25) (oi := ({ dst := some 140, op := Op.indexAddr 34 (Operand.tmp 138) (Operand.tmp 139), type := 0, pos := "more.go:60", after := #[{ on := 23, ground := Ground.data }, { on := 24, ground := Ground.data }, { on := 22, ground := Ground.guard }], guard := some (22, false) } : Oper)) (v := undef) rfl (by kernel_rfl) (by kernel_rfl) (by kernel_rfl) (fun _ _ _ h => h) (Or.inr ⟨by rfl, rfl⟩) hHeld2 ?_
                    try simp only [Act.put, List.setIfInBounds_toArray, List.set_cons_zero, List.set_cons_succ]
                    refine wpAnyH_take (i := 26) (oi := ({ dst := some 141, op := Op.fieldAddr 23 (Operand.tmp 140) 1, type := 0, pos := "more.go:60", after := #[{ on := 25, ground := Ground.data }, { on := 22, ground := Ground.guard }], guard := some (22, false) } : Oper)) (v := undef) rfl (by kernel_rfl) (by kernel_rfl) (by kernel_rfl) (fun _ _ _ h => h) (Or.inr ⟨by rfl, rfl⟩) hHeld2 ?_
                    try simp only [Act.put, List.setIfInBounds_toArray, List.set_cons_zero, List.set_cons_succ]
                    refine wpAnyH_take (i := 27) (oi := ({ dst := some 142, op := Op.load 9 (Operand.tmp 141), type := 9, pos := "more.go:60", after := #[{ on := 26, ground := Ground.data }, { on := 22, ground := Ground.guard }], guard := some (22, false) } : Oper)) (v := undef) rfl (by kernel_rfl) (by kernel_rfl) (by kernel_rfl) (fun _ _ _ h => h) (Or.inr ⟨by rfl, rfl⟩) hHeld2 ?_
                    try simp only [Act.put, List.setIfInBounds_toArray, List.set_cons_zero, List.set_cons_succ]
                    refine wpAnyH_take (i := 28) (oi := ({ dst := some 143, op := Op.binOp BinOp.neq 9 (Operand.tmp 142) (Operand.const (Value.string { data := #[] })) 9, type := 4, pos := "more.go:60", after := #[{ on := 27, ground := Ground.data }, { on := 22, ground := Ground.guard }], guard := some (22, false) } : Oper)) (v := undef) rfl (by kernel_rfl) (by kernel_rfl) (by kernel_rfl) (fun _ _ _ h => h) (Or.inr ⟨by rfl, rfl⟩) hHeld2 ?_
                    try simp only [Act.put, List.setIfInBounds_toArray, List.set_cons_zero, List.set_cons_succ]
                    refine wpAnyH_take (i := 29) (oi := ({ dst := some 144, op := Op.pick (Operand.tmp 137) (Operand.const (Value.bool true)) (Operand.tmp 143), type := 4, pos := "more.go:60", after := #[{ on := 22, ground := Ground.data }, { on := 28, ground := Ground.data }, { on := 10, ground := Ground.guard }], guard := some (10, false) } : Oper)) (v := ?v7x29) rfl (by kernel_rfl) (by kernel_rfl) (by kernel_rfl) (fun _ _ _ h => h) (Or.inl ⟨by rfl, ?hy7x29⟩) hHeld2 ?_
                    case hy7x29 => ((intro w hSw); (try dsimp only at hSw); go_simp; try with_reducible rfl)
                    try simp only [Act.put, List.setIfInBounds_toArray, List.set_cons_zero, List.set_cons_succ]
                    refine wpAnyH_take (i := 30) (oi := ({ dst := some 145, op := Op.binOp BinOp.neq 4 (Operand.tmp 130) (Operand.tmp 144) 4, type := 4, pos := "more.go:60", after := #[{ on := 15, ground := Ground.data }, { on := 29, ground := Ground.data }, { on := 10, ground := Ground.guard }], guard := some (10, false) } : Oper)) (v := ?v7x30) rfl (by kernel_rfl) (by kernel_rfl) (by kernel_rfl) (fun _ _ _ h => h) (Or.inl ⟨by rfl, ?hy7x30⟩) hHeld2 ?_
                    case hy7x30 => ((intro w hSw); (try dsimp only at hSw); go_simp; try with_reducible rfl)
                    try simp only [Act.put, List.setIfInBounds_toArray, List.set_cons_zero, List.set_cons_succ]
                    refine wpAnyH_take (i := 31) (oi := ({ dst := some 146, op := Op.pick (Operand.tmp 125) (Operand.const (Value.bool true)) (Operand.tmp 145), type := 4, pos := "more.go:60", after := #[{ on := 10, ground := Ground.data }, { on := 30, ground := Ground.data }], guard := none } : Oper)) (v := ?v7x31) rfl (by kernel_rfl) (by kernel_rfl) (by kernel_rfl) (fun _ _ _ h => h) (Or.inl ⟨by rfl, ?hy7x31⟩) hHeld2 ?_
                    case hy7x31 => ((intro w hSw); (try dsimp only at hSw); go_simp; try with_reducible rfl)
                    try simp only [Act.put, List.setIfInBounds_toArray, List.set_cons_zero, List.set_cons_succ]
                    refine wpAnyH_done (by kernel_rfl) ?_ _
                    try dsimp only at hHeld2
                    go_split_ands
                    go_wp2
                    go_roundg (gk - 1)
                    case measure => exact hgg
                    case rel => exact ⟨k2 + 1, by go_num, by omega, Below.link HBW.out (by assumption)⟩
                  · go_wp2_with fail
                    refine wp_region_held_drew (S := (fun w' => w'.cell? ⟨N, 0, none⟩ = some (.slice (some ⟨p2, o3, none⟩) n c2) ∧ w'.cell? ⟨p1, o1 + k2 * 2, none⟩ = some (.int .i64 4) ∧ w'.cell? ⟨p1, o1 + k2 * 2 + 1, none⟩ = some (.string qn) ∧ w'.cell? ⟨p2, o3 + k2 * 2, none⟩ = some (.int .i64 4) ∧ w'.cell? ⟨p2, o3 + k2 * 2 + 1, none⟩ = some (.string qn) ∧ wr.heap.size ≤ w'.heap.size ∧ Below wr.heap.size wr w')) (by kernel_rfl) ⟨n0, x0, x1, y0, y1, Nat.le_refl _, (Below.refl _ _).drew⟩ (fun hHeld => ?_)
                    refine wpAnyH_take (i := 0) (oi := ({ dst := some 115, op := Op.fieldAddr 36 (Operand.tmp 17) 0, type := 0, pos := "more.go:60", after := #[], guard := none } : Oper)) (v := ?v8x0) rfl (by kernel_rfl) (by kernel_rfl) (by kernel_rfl) (fun _ _ _ h => h) (Or.inl ⟨by rfl, ?hy8x0⟩) hHeld ?_
                    case hy8x0 => ((intro w hSw); (try dsimp only at hSw); go_simp; try with_reducible rfl)
                    try simp only [Act.put, List.setIfInBounds_toArray, List.set_cons_zero, List.set_cons_succ]
                    refine wpAnyH_take (i := 1) (oi := ({ dst := some 116, op := Op.load 34 (Operand.tmp 115), type := 34, pos := "more.go:60", after := #[{ on := 0, ground := Ground.data }], guard := none } : Oper)) (v := ?v8x1) rfl (by kernel_rfl) (by kernel_rfl) (by kernel_rfl) (fun _ _ _ h => h) (Or.inl ⟨by rfl, ?hy8x1⟩) hHeld ?_
                    case hy8x1 => ((intro w hSw); (try dsimp only at hSw); go_simp; try with_reducible rfl)
                    try simp only [Act.put, List.setIfInBounds_toArray, List.set_cons_zero, List.set_cons_succ]
                    refine wpAnyH_take (i := 2) (oi := ({ dst := some 117, op := Op.move (Operand.tmp 19), type := 3, pos := "more.go:60", after := #[], guard := none } : Oper)) (v := ?v8x2) rfl (by kernel_rfl) (by kernel_rfl) (by kernel_rfl) (fun _ _ _ h => h) (Or.inl ⟨by rfl, ?hy8x2⟩) hHeld ?_
                    case hy8x2 => ((intro w hSw); (try dsimp only at hSw); go_simp; try with_reducible rfl)
                    try simp only [Act.put, List.setIfInBounds_toArray, List.set_cons_zero, List.set_cons_succ]
                    refine wpAnyH_take (i := 3) (oi := ({ dst := some 118, op := Op.indexAddr 34 (Operand.tmp 116) (Operand.tmp 117), type := 0, pos := "more.go:60", after := #[{ on := 1, ground := Ground.data }, { on := 2, ground := Ground.data }], guard := none } : Oper)) (v := ?v8x3) rfl (by kernel_rfl) (by kernel_rfl) (by kernel_rfl) (fun _ _ _ h => h) (Or.inl ⟨by rfl, ?hy8x3⟩) hHeld ?_
                    case hy8x3 => ((intro w hSw); (try dsimp only at hSw); go_simp; try with_reducible rfl)
                    try simp only [Act.put, List.setIfInBounds_toArray, List.set_cons_zero, List.set_cons_succ]
                    refine wpAnyH_take (i := 4) (oi := ({ dst := some 119, op := Op.load 23 (Operand.tmp 118), type := 23, pos := "more.go:60", after := #[{ on := 3, ground := Ground.data }], guard := none } : Oper)) (v := ?v8x4) rfl (by kernel_rfl) (by kernel_rfl) (by kernel_rfl) (fun _ _ _ h => h) (Or.inl ⟨by rfl, ?hy8x4⟩) hHeld ?_
                    case hy8x4 => ((intro w hSw); (try dsimp only at hSw); go_simp; try with_reducible rfl)
                    try simp only [Act.put, List.setIfInBounds_toArray, List.set_cons_zero, List.set_cons_succ]
                    refine wpAnyH_take (i := 5) (oi := ({ dst := some 120, op := Op.move (Operand.tmp 0), type := 34, pos := "more.go:60", after := #[], guard := none } : Oper)) (v := ?v8x5) rfl (by kernel_rfl) (by kernel_rfl) (by kernel_rfl) (fun _ _ _ h => h) (Or.inl ⟨by rfl, ?hy8x5⟩) hHeld ?_
                    case hy8x5 => ((intro w hSw); (try dsimp only at hSw); go_simp; try with_reducible rfl)
                    try simp only [Act.put, List.setIfInBounds_toArray, List.set_cons_zero, List.set_cons_succ]
                    refine wpAnyH_take (i := 6) (oi := ({ dst := some 121, op := Op.move (Operand.tmp 19), type := 3, pos := "more.go:60", after := #[], guard := none } : Oper)) (v := ?v8x6) rfl (by kernel_rfl) (by kernel_rfl) (by kernel_rfl) (fun _ _ _ h => h) (Or.inl ⟨by rfl, ?hy8x6⟩) hHeld ?_
                    case hy8x6 => ((intro w hSw); (try dsimp only at hSw); go_simp; try with_reducible rfl)
                    try simp only [Act.put, List.setIfInBounds_toArray, List.set_cons_zero, List.set_cons_succ]
                    refine wpAnyH_take (i := 7) (oi := ({ dst := some 122, op := Op.indexAddr 34 (Operand.tmp 120) (Operand.tmp 121), type := 0, pos := "more.go:60", after := #[{ on := 5, ground := Ground.data }, { on := 6, ground := Ground.data }], guard := none } : Oper)) (v := ?v8x7) rfl (by kernel_rfl) (by kernel_rfl) (by kernel_rfl) (fun _ _ _ h => h) (Or.inl ⟨by rfl, ?hy8x7⟩) hHeld ?_
                    case hy8x7 => ((intro w hSw); (try dsimp only at hSw); go_simp; try with_reducible rfl)
                    try simp only [Act.put, List.setIfInBounds_toArray, List.set_cons_zero, List.set_cons_succ]
                    refine wpAnyH_take (i := 8) (oi := ({ dst := some 123, op := Op.load 23 (Operand.tmp 122), type := 23, pos := "more.go:60", after := #[{ on := 7, ground := Ground.data }], guard := none } : Oper)) (v := ?v8x8) rfl (by kernel_rfl) (by kernel_rfl) (by kernel_rfl) (fun _ _ _ h => h) (Or.inl ⟨by rfl, ?hy8x8⟩) hHeld ?_
                    case hy8x8 => ((intro w hSw); (try dsimp only at hSw); go_simp; try with_reducible rfl)
                    try simp only [Act.put, List.setIfInBounds_toArray, List.set_cons_zero, List.set_cons_succ]
                    refine wpAnyH_take (i := 9) (oi := ({ dst := some 124, op := Op.binOp BinOp.neq 23 (Operand.tmp 119) (Operand.tmp 123) 23, type := 4, pos := "more.go:60", after := #[{ on := 4, ground := Ground.data }, { on := 8, ground := Ground.data }], guard := none } : Oper)) (v := ?v8x9) rfl (by kernel_rfl) (by kernel_rfl) (by kernel_rfl) (fun _ _ _ h => h) (Or.inl ⟨by rfl, ?hy8x9⟩) hHeld ?_
                    case hy8x9 => ((intro w hSw); (try dsimp only at hSw); go_simp; try with_reducible rfl)
                    try simp only [Act.put, List.setIfInBounds_toArray, List.set_cons_zero, List.set_cons_succ]
                    refine wpAnyH_take (i := 10) (oi := ({ dst := some 125, op := Op.move (Operand.tmp 124), type := 4, pos := "more.go:60", after := #[{ on := 9, ground := Ground.data }], guard := none } : Oper)) (v := ?v8x10) rfl (by kernel_rfl) (by kernel_rfl) (by kernel_rfl) (fun _ _ _ h => h) (Or.inl ⟨by rfl, ?hy8x10⟩) hHeld ?_
                    case hy8x10 => ((intro w hSw); (try dsimp only at hSw); go_simp; try with_reducible rfl)
                    try simp only [Act.put, List.setIfInBounds_toArray, List.set_cons_zero, List.set_cons_succ]
                    refine wpAnyH_take (i := 11) (oi := ({ dst := some 126, op := Op.move (Operand.tmp 0), type := 34, pos := "more.go:60", after := #[{ on := 10, ground := Ground.guard }], guard := some (10, false) } : Oper)) (v := ?v8x11) rfl (by kernel_rfl) (by kernel_rfl) (by kernel_rfl) (fun _ _ _ h => h) (Or.inl ⟨by rfl, ?hy8x11⟩) hHeld ?_
                    case hy8x11 => ((intro w hSw); (try dsimp only at hSw); go_simp; try with_reducible rfl)
                    try simp only [Act.put, List.setIfInBounds_toArray, List.set_cons_zero, List.set_cons_succ]
                    refine wpAnyH_take (i := 12) (oi := ({ dst := some 127, op := Op.move (Operand.tmp 19), type := 3, pos := "more.go:60", after := #[{ on := 10, ground := Ground.guard }], guard := some (10, false) } : Oper)) (v := ?v8x12) rfl (by kernel_rfl) (by kernel_rfl) (by kernel_rfl) (fun _ _ _ h => h) (Or.inl ⟨by rfl, ?hy8x12⟩) hHeld ?_
                    case hy8x12 => ((intro w hSw); (try dsimp only at hSw); go_simp; try with_reducible rfl)
                    try simp only [Act.put, List.setIfInBounds_toArray, List.set_cons_zero, List.set_cons_succ]
                    refine wpAnyH_take (i := 13) (oi := ({ dst := some 128, op := Op.indexAddr 34 (Operand.tmp 126) (Operand.tmp 127), type := 0, pos := "more.go:60", after := #[{ on := 11, ground := Ground.data }, { on := 12, ground := Ground.data }, { on := 10, ground := Ground.guard }], guard := some (10, false) } : Oper)) (v := ?v8x13) rfl (by kernel_rfl) (by kernel_rfl) (by kernel_rfl) (fun _ _ _ h => h) (Or.inl ⟨by rfl, ?hy8x13⟩) hHeld ?_
                    case hy8x13 => ((intro w hSw); (try dsimp only at hSw); go_simp; try with_reducible rfl)
                    try simp only [Act.put, List.setIfInBounds_toArray, List.set_cons_zero, List.set_cons_succ]
                    refine wpAnyH_take (i := 14) (oi := ({ dst := some 129, op := Op.load 23 (Operand.tmp 128), type := 23, pos := "more.go:60", after := #[{ on := 13, ground := Ground.data }, { on := 10, ground := Ground.guard }], guard := some (10, false) } : Oper)) (v := ?v8x14) rfl (by kernel_rfl) (by kernel_rfl) (by kernel_rfl) (fun _ _ _ h => h) (Or.inl ⟨by rfl, ?hy8x14⟩) hHeld ?_
                    case hy8x14 => ((intro w hSw); (try dsimp only at hSw); go_simp; try with_reducible rfl)
                    try simp only [Act.put, List.setIfInBounds_toArray, List.set_cons_zero, List.set_cons_succ]
                    refine wpAnyH_take (i := 16) (oi := ({ dst := some 131, op := Op.move (Operand.tmp 0), type := 34, pos := "more.go:60", after := #[{ on := 10, ground := Ground.guard }], guard := some (10, false) } : Oper)) (v := ?v8x16) rfl (by kernel_rfl) (by kernel_rfl) (by kernel_rfl) (fun _ _ _ h => h) (Or.inl ⟨by rfl, ?hy8x16⟩) hHeld ?_
                    case hy8x16 => ((intro w hSw); (try dsimp only at hSw); go_simp; try with_reducible rfl)
                    try simp only [Act.put, List.setIfInBounds_toArray, List.set_cons_zero, List.set_cons_succ]
                    refine wpAnyH_take (i := 17) (oi := ({ dst := some 132, op := Op.move (Operand.tmp 19), type := 3, pos := "more.go:60", after := #[{ on := 10, ground := Ground.guard }], guard := some (10, false) } : Oper)) (v := ?v8x17) rfl (by kernel_rfl) (by kernel_rfl) (by kernel_rfl) (fun _ _ _ h => h) (Or.inl ⟨by rfl, ?hy8x17⟩) hHeld ?_
                    case hy8x17 => ((intro w hSw); (try dsimp only at hSw); go_simp; try with_reducible rfl)
                    try simp only [Act.put, List.setIfInBounds_toArray, List.set_cons_zero, List.set_cons_succ]
                    refine wpAnyH_take (i := 18) (oi := ({ dst := some 133, op := Op.indexAddr 34 (Operand.tmp 131) (Operand.tmp 132), type := 0, pos := "more.go:60", after := #[{ on := 16, ground := Ground.data }, { on := 17, ground := Ground.data }, { on := 10, ground := Ground.guard }], guard := some (10, false) } : Oper)) (v := ?v8x18) rfl (by kernel_rfl) (by kernel_rfl) (by kernel_rfl) (fun _ _ _ h => h) (Or.inl ⟨by rfl, ?hy8x18⟩) hHeld ?_
                    case hy8x18 => ((intro w hSw); (try dsimp only at hSw); go_simp; try with_reducible rfl)
                    try simp only [Act.put, List.setIfInBounds_toArray, List.set_cons_zero, List.set_cons_succ]
                    refine wpAnyH_take (i := 19) (oi := ({ dst := some 134, op := Op.fieldAddr 23 (Operand.tmp 133) 0, type := 0, pos := "more.go:60", after := #[{ on := 18, ground := Ground.data }, { on := 10, ground := Ground.guard }], guard := some (10, false) } : Oper)) (v := ?v8x19) rfl (by kernel_rfl) (by kernel_rfl) (by kernel_rfl) (fun _ _ _ h => h) (Or.inl ⟨by rfl, ?hy8x19⟩) hHeld ?_
                    case hy8x19 => ((intro w hSw); (try dsimp only at hSw); go_simp; try with_reducible rfl)
                    try simp only [Act.put, List.setIfInBounds_toArray, List.set_cons_zero, List.set_cons_succ]
                    refine wpAnyH_take (i := 20) (oi := ({ dst := some 135, op := Op.load 3 (Operand.tmp 134), type := 3, pos := "more.go:60", after := #[{ on := 19, ground := Ground.data }, { on := 10, ground := Ground.guard }], guard := some (10, false) } : Oper)) (v := ?v8x20) rfl (by kernel_rfl) (by kernel_rfl) (by kernel_rfl) (fun _ _ _ h => h) (Or.inl ⟨by rfl, ?hy8x20⟩) hHeld ?_
                    case hy8x20 => ((intro w hSw); (try dsimp only at hSw); go_simp; try with_reducible rfl)
                    try simp only [Act.put, List.setIfInBounds_toArray, List.set_cons_zero, List.set_cons_succ]
                    refine wpAnyH_take (i := 21) (oi := ({ dst := some 136, op := Op.binOp BinOp.gtr 3 (Operand.tmp 135) (Operand.const (Value.int IntKind.i64 0)) 3, type := 4, pos := "more.go:60", after := #[{ on := 20, ground := Ground.data }, { on := 10, ground := Ground.guard }], guard := some (10, false) } : Oper)) (v := ?v8x21) rfl (by kernel_rfl) (by kernel_rfl) (by kernel_rfl) (fun _ _ _ h => h) (Or.inl ⟨by rfl, ?hy8x21⟩) hHeld ?_
                    case hy8x21 => ((intro w hSw); (try dsimp only at hSw); go_simp; try with_reducible rfl)
                    try simp only [Act.put, List.setIfInBounds_toArray, List.set_cons_zero, List.set_cons_succ]
                    refine wpAnyH_ready (rs := [15]) (by kernel_rfl) (by simp) ?_
                    refine AllReadyH.cons (o := ({ dst := some 130, op := Op.call { callee := Callee.value (Operand.func 18), args := #[Operand.tmp 129], argTypes := #[23] }, type := 4, pos := "more.go:60", after := #[{ on := 14, ground := Ground.data }, { on := 10, ground := Ground.chain }, { on := 10, ground := Ground.guard }], guard := some (10, false) } : Oper)) rfl (fun K hK => ?_) AllReadyH.nil
                    go_simp
                    go_at_call 18
                    refine (CI _).out.mono ?_
                    rintro e wi ⟨rfl, hb⟩
                    try go_wp2_with fail
                    refine hK.out _ _ ?_ (fun hHeld2 => ?_)
                    · try dsimp only
                      try dsimp only at hHeld
                      go_split_ands
                      refine ⟨?_, ?_, ?_, ?_, ?_, ?_, ?_⟩
                      all_goals first
                        | exact keepc hb (B := wr.heap.size) (by assumption) (by assumption) (by assumption)
                        | exact Nat.le_trans (by assumption) hb.size
                        | exact Below.link (by assumption) hb
                    clear hK K hHeld
                    try simp only [Act.put, List.setIfInBounds_toArray, List.set_cons_zero, List.set_cons_succ]
                    refine wpAnyH_take (i := 22) (oi := ({ dst := some 137, op := Op.move (Operand.tmp 136), type := 4, pos := "more.go:60", after := #[{ on := 21, ground := Ground.data }, { on := 15, ground := Ground.chain }, { on := 10, ground := Ground.guard }], guard := some (10, false) } : Oper)) (v := ?v8x22) rfl (by kernel_rfl) (by kernel_rfl) (by kernel_rfl) (fun _ _ _ h => h) (Or.inl ⟨by rfl, ?hy8x22⟩) hHeld2 ?_
                    case hy8x22 => ((intro w hSw); (try dsimp only at hSw); go_simp; try with_reducible rfl)
                    try simp only [Act.put, List.setIfInBounds_toArray, List.set_cons_zero, List.set_cons_succ]
                    refine wpAnyH_take (i := 23) (oi := ({ dst := some 138, op := Op.move (Operand.tmp 0), type := 34, pos := "more.go:60", after := #[{ on := 22, ground := Ground.guard }], guard := some (22, false) } : Oper)) (v := undef) rfl (by kernel_rfl) (by kernel_rfl) (by kernel_rfl) (fun _ _ _ h => h) (Or.inr ⟨by rfl, rfl⟩) hHeld2 ?_
                    try simp only [Act.put, List.setIfInBounds_toArray, List.set_cons_zero, List.set_cons_succ]
                    refine wpAnyH_take (i := 24) (oi := ({ dst := some 139, op := Op.move (Operand.tmp 19), type := 3, pos := "more.go:60", after := #[{ on := 22, ground := Ground.guard }], guard := some (22, false) } : Oper)) (v := undef) rfl (by kernel_rfl) (by kernel_rfl) (by kernel_rfl) (fun _ _ _ h => h) (Or.inr ⟨by rfl, rfl⟩) hHeld2 ?_
                    try simp only [Act.put, List.setIfInBounds_toArray, List.set_cons_zero, List.set_cons_succ]
                    refine wpAnyH_take (i := 25) (oi := ({ dst := some 140, op := Op.indexAddr 34 (Operand.tmp 138) (Operand.tmp 139), type := 0, pos := "more.go:60", after := #[{ on := 23, ground := Ground.data }, { on := 24, ground := Ground.data }, { on := 22, ground := Ground.guard }], guard := some (22, false) } : Oper)) (v := undef) rfl (by kernel_rfl) (by kernel_rfl) (by kernel_rfl) (fun _ _ _ h => h) (Or.inr ⟨by rfl, rfl⟩) hHeld2 ?_
                    try simp only [Act.put, List.setIfInBounds_toArray, List.set_cons_zero, List.set_cons_succ]
                    refine wpAnyH_take (i := 26) (oi := ({ dst := some 141, op := Op.fieldAddr 23 (Operand.tmp 140) 1, type := 0, pos := "more.go:60", after := #[{ on := 25, ground := Ground.data }, { on := 22, ground := Ground.guard }], guard := some (22, false) } : Oper)) (v := undef) rfl (by kernel_rfl) (by kernel_rfl) (by kernel_rfl) (fun _ _ _ h => h) (Or.inr ⟨by rfl, rfl⟩) hHeld2 ?_
                    try simp only [Act.put, List.setIfInBounds_toArray, List.set_cons_zero, List.set_cons_succ]
                    refine wpAnyH_take (i := 27) (oi := ({ dst := some 142, op := Op.load 9 (Operand.tmp 141), type := 9, pos := "more.go:60", after := #[{ on := 26, ground := Ground.data }, { on := 22, ground := Ground.guard }], guard := some (22, false) } : Oper)) (v := undef) rfl (by kernel_rfl) (by kernel_rfl) (by kernel_rfl) (fun _ _ _ h => h) (Or.inr ⟨by rfl, rfl⟩) hHeld2 ?_
                    try simp only [Act.put, List.setIfInBounds_toArray, List.set_cons_zero, List.set_cons_succ]
                    refine wpAnyH_take (i := 28) (oi := ({ dst := some 143, op := Op.binOp BinOp.neq 9 (Operand.tmp 142) (Operand.const (Value.string { data := #[] })) 9, type := 4, pos := "more.go:60", after := #[{ on := 27, ground := Ground.data }, { on := 22, ground := Ground.guard }], guard := some (22, false) } : Oper)) (v := undef) rfl (by kernel_rfl) (by kernel_rfl) (by kernel_rfl) (fun _ _ _ h => h) (Or.inr ⟨by rfl, rfl⟩) hHeld2 ?_
                    try simp only [Act.put, List.setIfInBounds_toArray, List.set_cons_zero, List.set_cons_succ]
                    refine wpAnyH_take (i := 29) (oi := ({ dst := some 144, op := Op.pick (Operand.tmp 137) (Operand.const (Value.bool true)) (Operand.tmp 143), type := 4, pos := "more.go:60", after := #[{ on := 22, ground := Ground.data }, { on := 28, ground := Ground.data }, { on := 10, ground := Ground.guard }], guard := some (10, false) } : Oper)) (v := ?v8x29) rfl (by kernel_rfl) (by kernel_rfl) (by kernel_rfl) (fun _ _ _ h => h) (Or.inl ⟨by rfl, ?hy8x29⟩) hHeld2 ?_
                    case hy8x29 => ((intro w hSw); (try dsimp only at hSw); go_simp; try with_reducible rfl)
                    try simp only [Act.put, List.setIfInBounds_toArray, List.set_cons_zero, List.set_cons_succ]
                    refine wpAnyH_take (i := 30) (oi := ({ dst := some 145, op := Op.binOp BinOp.neq 4 (Operand.tmp 130) (Operand.tmp 144) 4, type := 4, pos := "more.go:60", after := #[{ on := 15, ground := Ground.data }, { on := 29, ground := Ground.data }, { on := 10, ground := Ground.guard }], guard := some (10, false) } : Oper)) (v := ?v8x30) rfl (by kernel_rfl) (by kernel_rfl) (by kernel_rfl) (fun _ _ _ h => h) (Or.inl ⟨by rfl, ?hy8x30⟩) hHeld2 ?_
                    case hy8x30 => ((intro w hSw); (try dsimp only at hSw); go_simp; try with_reducible rfl)
                    try simp only [Act.put, List.setIfInBounds_toArray, List.set_cons_zero, List.set_cons_succ]
                    refine wpAnyH_take (i := 31) (oi := ({ dst := some 146, op := Op.pick (Operand.tmp 125) (Operand.const (Value.bool true)) (Operand.tmp 145), type := 4, pos := "more.go:60", after := #[{ on := 10, ground := Ground.data }, { on := 30, ground := Ground.data }], guard := none } : Oper)) (v := ?v8x31) rfl (by kernel_rfl) (by kernel_rfl) (by kernel_rfl) (fun _ _ _ h => h) (Or.inl ⟨by rfl, ?hy8x31⟩) hHeld2 ?_
                    case hy8x31 => ((intro w hSw); (try dsimp only at hSw); go_simp; try with_reducible rfl)
                    try simp only [Act.put, List.setIfInBounds_toArray, List.set_cons_zero, List.set_cons_succ]
                    refine wpAnyH_done (by kernel_rfl) ?_ _
                    try dsimp only at hHeld2
                    go_split_ands
                    go_wp2
                    go_roundg (gk - 1)
                    case measure => exact hgg
                    case rel => exact ⟨k2 + 1, by go_num, by omega, Below.link HBW.out (by assumption)⟩
                · go_wp2_with fail
                  go_region_held3 (fun w' => w'.cell? ⟨N, 0, none⟩ = some (.slice (some ⟨p2, o3, none⟩) n c2) ∧ w'.cell? ⟨p1, o1 + k2 * 2, none⟩ = some (.int .i64 0) ∧ w'.cell? ⟨p1, o1 + k2 * 2 + 1, none⟩ = some (.string qn) ∧ w'.cell? ⟨p2, o3 + k2 * 2, none⟩ = some (.int .i64 0) ∧ w'.cell? ⟨p2, o3 + k2 * 2 + 1, none⟩ = some (.string qn) ∧ wr.heap.size ≤ w'.heap.size ∧ Below wr.heap.size wr w')
                    (first
                      | exact ⟨n0, x0, x1, y0, y1, Nat.le_refl _, (Below.refl _ _).drew⟩
                      | (go_split_ands
                         refine ⟨?_, ?_, ?_, ?_, ?_, ?_, ?_⟩
                         all_goals first
                           | assumption
                           | exact keepc hb (B := wr.heap.size) (by assumption) (by assumption) (by assumption)
                           | exact Nat.le_trans (by assumption) hb.size
                           | exact Below.link (by assumption) hb))
                    (first
                      | (go_at_call 18; refine (CI _).out.mono ?_; rintro e wi ⟨rfl, hb⟩))
                  go_split_ands
                  go_wp2
                  go_roundg (gk - 1)
                  case measure => exact hgg
                  case rel => exact ⟨k2 + 1, by go_num, by omega, Below.link HBW.out (by assumption)⟩
                · go_wp2_with fail
                  go_region_held3 (fun w' => w'.cell? ⟨N, 0, none⟩ = some (.slice (some ⟨p2, o3, none⟩) n c2) ∧ w'.cell? ⟨p1, o1 + k2 * 2, none⟩ = some (.int .i64 0) ∧ w'.cell? ⟨p1, o1 + k2 * 2 + 1, none⟩ = some (.string qn) ∧ w'.cell? ⟨p2, o3 + k2 * 2, none⟩ = some (.int .i64 0) ∧ w'.cell? ⟨p2, o3 + k2 * 2 + 1, none⟩ = some (.string qn) ∧ wr.heap.size ≤ w'.heap.size ∧ Below wr.heap.size wr w')
                    (first
                      | exact ⟨n0, x0, x1, y0, y1, Nat.le_refl _, (Below.refl _ _).drew⟩
                      | (go_split_ands
                         refine ⟨?_, ?_, ?_, ?_, ?_, ?_, ?_⟩
                         all_goals first
                           | assumption
                           | exact keepc hb (B := wr.heap.size) (by assumption) (by assumption) (by assumption)
                           | exact Nat.le_trans (by assumption) hb.size
                           | exact Below.link (by assumption) hb))
                    (first
                      | (go_at_call 18; refine (CI _).out.mono ?_; rintro e wi ⟨rfl, hb⟩))
                  go_split_ands
                  go_wp2
                  go_roundg (gk - 1)
                  case measure => exact hgg
                  case rel => exact ⟨k2 + 1, by go_num, by omega, Below.link HBW.out (by assumption)⟩
              · go_wp2
                go_ret
                exact ⟨rfl, U4.out.trans (HBEL2.out.mono U4.out.size)⟩
end Go.Proofs.Ytamafgpconfipaa
