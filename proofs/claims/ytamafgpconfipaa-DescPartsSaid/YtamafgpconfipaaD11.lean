/-
  WALK of 'Sign'.
-/
import Derived.Test.YtamafgpconfipaaD10
set_option linter.unusedVariables false
set_option linter.unusedSimpArgs false
namespace Go.Proofs.Ytamafgpconfipaa
open Go.RowKit

abbrev Tz := Int × ByteArray
/-- The slice value v reads as the types xs. -/
def TyRow (w : World) (v : Value) (xs : List Tz) : Prop :=
  ∃ ao cap, v = .slice ao xs.length cap ∧ xs.length ≤ cap ∧ cap ≤ maxLen ∧ (xs = [] ∨ ∃ b o, ao = some ⟨b, o, none⟩ ∧
    ∀ i (h : i < xs.length), w.cell? ⟨b, o + i * 2, none⟩ = some (.int .i64 xs[i].1) ∧ w.cell? ⟨b, o + i * 2 + 1, none⟩ = some (.string xs[i].2))
theorem TyRow.below {w w' : World} {v : Value} {xs : List Tz} (h : TyRow w v xs) (hb : Below w.heap.size w w') : TyRow w' v xs := by
  obtain ⟨ao, cap, h1, h2, h3, h4⟩ := h
  refine ⟨ao, cap, h1, h2, h3, h4.imp id ?_⟩
  rintro ⟨b, o, e, h5⟩
  refine ⟨b, o, e, fun i hi => ?_⟩
  have h6 := h5 i hi
  have hl := World.block_lt_of_cell? w _ h6.1
  exact ⟨(hb.cell (p := ⟨b, o + i * 2, none⟩) hl).trans h6.1, (hb.cell (p := ⟨b, o + i * 2 + 1, none⟩) hl).trans h6.2⟩
def okz (p : Tz) : Bool := okT p.1 (L p.2)
def dsz (p : Tz) : List UInt8 := descT (p.1.toNat, L p.2)
/-- What 'Sign' answers. -/
def sgE (xs : List Tz) (r : Tz) (b : Bool) : Int :=
  if xs.all okz = true ∧ okz r = true ∧ (b = true → refT r.1 (L r.2) = false) then (if xs.length ≤ 16 then 0 else 3) else 9
def sgT (xs : List Tz) (r : Tz) (b : Bool) : ByteArray :=
  if sgE xs r b = 0 then mkB (40 :: (xs.flatMap dsz ++ 41 :: (if b then [86] else dsz r))) else ⟨#[]⟩
theorem sg_no1 {xs : List Tz} {r : Tz} {b : Bool} (h : xs.all okz = false) : sgE xs r b = 9 ∧ sgT xs r b = ⟨#[]⟩ := by
  have e : sgE xs r b = 9 := by unfold sgE; rw [if_neg (by rw [h]; simp)]
  exact ⟨e, by unfold sgT; rw [e]; rfl⟩
theorem sg_no2 {xs : List Tz} {r : Tz} {b : Bool} (h : okz r = false) : sgE xs r b = 9 ∧ sgT xs r b = ⟨#[]⟩ := by
  have e : sgE xs r b = 9 := by unfold sgE; rw [if_neg (by rw [h]; simp)]
  exact ⟨e, by unfold sgT; rw [e]; rfl⟩
theorem sg_no3 {xs : List Tz} {r : Tz} (h : refT r.1 (L r.2) = true) : sgE xs r true = 9 ∧ sgT xs r true = ⟨#[]⟩ := by
  have e : sgE xs r true = 9 := by unfold sgE; rw [if_neg (by rw [h]; simp)]
  exact ⟨e, by unfold sgT; rw [e]; rfl⟩
theorem sg_many {xs : List Tz} {r : Tz} {b : Bool} (h1 : xs.all okz = true) (h2 : okz r = true) (h3 : b = true → refT r.1 (L r.2) = false) (h : 16 < xs.length) : sgE xs r b = 3 ∧ sgT xs r b = ⟨#[]⟩ := by
  have e : sgE xs r b = 3 := by unfold sgE; rw [if_pos ⟨h1, h2, h3⟩, if_neg (by omega)]
  exact ⟨e, by unfold sgT; rw [e]; rfl⟩
theorem sg_ok {xs : List Tz} {r : Tz} {b : Bool} (h1 : xs.all okz = true) (h2 : okz r = true) (h3 : b = true → refT r.1 (L r.2) = false) (h : xs.length ≤ 16) :
    sgE xs r b = 0 ∧ sgT xs r b = mkB (40 :: (xs.flatMap dsz ++ 41 :: (if b then [86] else dsz r))) := by
  have e : sgE xs r b = 0 := by unfold sgE; rw [if_pos ⟨h1, h2, h3⟩, if_pos h]
  exact ⟨e, by unfold sgT; rw [e]; rfl⟩
theorem take_next {xs : List Tz} {k : Nat} (h : k < xs.length) : xs.take (k + 1) = xs.take k ++ [xs[k]] := List.take_succ_eq_append_getElem h

theorem describe_z (d : Int) (n : ByteArray) (w : World) (h : okT d (L n) = true) :
    Calls Try.prog 28 #[.agg #[.int .i64 d, .string n]] w fun e w' => e = .returned (.string (mkB (dsz (d, n)))) ∧ Below w.heap.size w w' := by
  have hd := okT_dims h
  have hn := okT_name_le h
  have e : ((d.toNat : Nat) : Int) = d := by omega
  have := describe_any d.toNat n w (by omega) (by omega)
  rwa [e] at this
theorem dsz_len {p : Tz} (h : okz p = true) : (dsz p).length ≤ 262 := tlen_le (okT_okP h).1
theorem flat_len {xs : List Tz} (h : xs.all okz = true) : (xs.flatMap dsz).length ≤ 262 * xs.length := by
  induction xs with
  | nil => simp
  | cons p xs ih =>
    simp only [List.all_cons, Bool.and_eq_true] at h
    have h1 := dsz_len h.1
    have h2 := ih h.2
    simp only [List.flatMap_cons, List.length_append, List.length_cons]
    omega
set_option maxRecDepth 1000000 in
set_option maxHeartbeats 6400000 in
theorem Sign_any (v : Value) (xs : List Tz) (rd : Int) (rn : ByteArray) (b : Bool) (w : World) (hv : TyRow w v xs) (hl : xs.length ≤ 1000000) :
    Calls Try.prog 22 #[.agg #[v, .int .i64 rd, .string rn, .bool b]] w fun e w' => e = .returned (.tuple #[.string (sgT xs (rd, rn) b), .int .i64 (sgE xs (rd, rn) b)]) ∧ Below w.heap.size w w' := by
  obtain ⟨ao, cap, rfl, -⟩ := id hv
  obtain ⟨T, hT⟩ : ∃ T, sgT xs (rd, rn) b = T := ⟨_, rfl⟩
  obtain ⟨E, hE⟩ : ∃ E, sgE xs (rd, rn) b = E := ⟨_, rfl⟩
  rw [hT, hE]
  have HT := Lib.hid hT
  have HE := Lib.hid hE
  have HBE := Lib.hid ((Below.refl w.heap.size w).alloc (Nat.le_refl _) (.cells #[.slice ao xs.length cap, .int .i64 rd, .string rn, .bool b] 36))
  have HV := Lib.hid hv
  obtain ⟨n, hn⟩ : ∃ n, xs.length = n := ⟨_, rfl⟩
  have HN := Lib.hid hn
  rw [hn] at hl HBE ⊢
  clear hT hE hv hn
  go_enter Try.func22, Try.ntmps22
  go_wp2
  go_loopg [12] n (fun g i wx => ∃ k : Nat, i = .int .i64 k ∧ k + g = n ∧ (xs.take k).all okz = true ∧ wx.heap[w.heap.size]? = some (.cells #[.slice ao n cap, .int .i64 rd, .string rn, .bool b] 36 (0, 0)) ∧ Below w.heap.size w wx)
  case atStart => exact ⟨0, rfl, by omega, by simp, heap_new w _, HBE.out⟩
  case round =>
    obtain ⟨k, rfl, hkg, hall, hbox, hbel⟩ := hrel
    have HALL := Lib.hid hall
    have HBOX := Lib.hid hbox
    have HBEL := Lib.hid hbel
    have lb := lt_of_block hbox
    have c0 : wr.cell? ⟨w.heap.size, 0, none⟩ = some (.slice ao n cap) := cells_of hbox 0
    have c1 : wr.cell? ⟨w.heap.size, 1, none⟩ = some (.int .i64 rd) := cells_of hbox 1
    have c2 : wr.cell? ⟨w.heap.size, 2, none⟩ = some (.string rn) := cells_of hbox 2
    have c3 : wr.cell? ⟨w.heap.size, 3, none⟩ = some (.bool b) := cells_of hbox 3
    clear hall hbox hbel
    by_cases hlt : k < n
    · have hk : k < xs.length := by rw [HN.out]; exact hlt
      obtain ⟨ab, ao', rfl, x0, x1⟩ : ∃ ab ao', ao = some ⟨ab, ao', none⟩ ∧ wr.cell? ⟨ab, ao' + k * 2, none⟩ = some (.int .i64 xs[k].1) ∧ wr.cell? ⟨ab, ao' + k * 2 + 1, none⟩ = some (.string xs[k].2) := by
        obtain ⟨ao2, cap', h1, _, _, h4⟩ := HV.out.below HBEL.out
        rcases h4 with h0 | ⟨p, o, h5, h6⟩
        · rw [h0] at hk; simp at hk
        · simp only [Value.slice.injEq] at h1
          exact ⟨p, o, h1.1.trans h5, h6 k hk⟩
      have HTK := Lib.hid (take_next hk)
      obtain ⟨q, hq⟩ : ∃ q, xs[k] = q := ⟨_, rfl⟩
      rw [hq] at x0 x1
      have HQ := Lib.hid hq
      clear hq
      cases hok : okT q.1 (L q.2) with
      | true =>
        have CV := fun W => Lib.hid (tyvalid_at true q.1 q.2 W hok)
        have HOK := Lib.hid hok
        have hgg : gk - 1 < gk := by omega
        clear hok
        go_wp2_with fail
        refine (CV _).out.mono ?_
        rintro e w1 ⟨rfl, hb1⟩
        have HB1 := Lib.hid ((HBEL.out.alloc (by omega) (.cells #[.int .i64 q.1, .string q.2] 23)).trans (hb1.mono (by simp; omega)))
        have BX1 := Lib.hid (Below.keep hb1 (by simp; omega) (heap_alloc_lt HBOX.out))
        clear hb1
        go_wp2
        go_roundg (gk - 1)
        case measure => exact hgg
        case rel => exact ⟨k + 1, by go_num, by omega, by rw [HTK.out, List.all_append, HALL.out, HQ.out]; simp [okz, HOK.out], BX1.out, HB1.out⟩
      | false =>
        have CV := fun W => Lib.hid (tyvalid_at false q.1 q.2 W hok)
        have hno : xs.all okz = false := by
          have hm : q ∈ xs := by rw [← HQ.out]; exact List.getElem_mem hk
          rw [List.all_eq_false]
          exact ⟨q, hm, by unfold okz; rw [hok]; simp⟩
        have HT9 := Lib.hid (show T = ⟨#[]⟩ by rw [← HT.out]; exact (sg_no1 hno).2)
        have HE9 := Lib.hid (show E = 9 by rw [← HE.out]; exact (sg_no1 hno).1)
        clear hok hno
        go_wp2_with fail
        refine (CV _).out.mono ?_
        rintro e w1 ⟨rfl, hb1⟩
        have HB1 := Lib.hid ((HBEL.out.alloc (by omega) (.cells #[.int .i64 q.1, .string q.2] 23)).trans (hb1.mono (by simp; omega)))
        clear hb1
        go_wp2
        go_ret2
        rw [HT9.out, HE9.out]
        exact ⟨rfl, HB1.out⟩
    · have hall : xs.all okz = true := by
        have := HALL.out
        rwa [List.take_of_length_le (by rw [HN.out]; omega)] at this
      have HA := Lib.hid hall
      clear hall
      have hne : ((n : Int) ≤ 16 ∨ (16 : Int) < (n : Int)) := by omega
      cases hr : okT rd (L rn) with
      | false =>
        have CV := fun W => Lib.hid (tyvalid_at false rd rn W hr)
        have HT9 := Lib.hid (show T = ⟨#[]⟩ by rw [← HT.out]; exact (sg_no2 (show okz (rd, rn) = false from hr)).2)
        have HE9 := Lib.hid (show E = 9 by rw [← HE.out]; exact (sg_no2 (show okz (rd, rn) = false from hr)).1)
        clear hr hne
        go_wp2_with fail
        refine (CV _).out.mono ?_
        rintro e w1 ⟨rfl, hb1⟩
        have HB1 := Lib.hid (HBEL.out.trans (hb1.mono (by omega)))
        clear hb1
        go_wp2
        go_ret2
        rw [HT9.out, HE9.out]
        exact ⟨rfl, HB1.out⟩
      | true =>
        have CV := fun W => Lib.hid (tyvalid_at true rd rn W hr)
        have CD := fun W => Lib.hid (describe_z rd rn W hr)
        have HR := Lib.hid (show okz (rd, rn) = true from hr)
        have hrl : (mkB (dsz (rd, rn))).size ≤ 262 := by rw [size_L]; exact dsz_len HR.out
        clear hr
        by_cases href : b = true ∧ refT rd (L rn) = true
        · obtain ⟨rfl, hrt⟩ := href
          have CI := fun W => Lib.hid (IsRef_any rd rn W)
          rw [hrt] at CI
          have HT9 := Lib.hid (show T = ⟨#[]⟩ by rw [← HT.out]; exact (sg_no3 hrt).2)
          have HE9 := Lib.hid (show E = 9 by rw [← HE.out]; exact (sg_no3 hrt).1)
          clear hrt hne
          go_wp2_with fail
          refine (CV _).out.mono ?_
          rintro e w1 ⟨rfl, hb1⟩
          have BX1 := Below.keep hb1 lb HBOX.out
          have HB1 := Lib.hid (HBEL.out.trans (hb1.mono (by omega)))
          have e1 : w1.cell? ⟨w.heap.size, 1, none⟩ = some (.int .i64 rd) := cells_of BX1 1
          have e2 : w1.cell? ⟨w.heap.size, 2, none⟩ = some (.string rn) := cells_of BX1 2
          have e3 : w1.cell? ⟨w.heap.size, 3, none⟩ = some (.bool true) := cells_of BX1 3
          clear hb1 BX1
          go_wp2_with fail
          refine (CI _).out.mono ?_
          rintro e w2 ⟨rfl, hb2⟩
          have HB2 := Lib.hid (HB1.out.trans (hb2.mono HB1.out.size))
          clear hb2
          go_wp2
          go_ret2
          rw [HT9.out, HE9.out]
          exact ⟨rfl, HB2.out⟩
        · have h3 : b = true → refT rd (L rn) = false := fun hb => by
            cases h : refT rd (L rn) with
            | true => exact absurd ⟨hb, h⟩ href
            | false => rfl
          have H3 := Lib.hid h3
          have CI := fun W (hb : b = true) => Lib.hid (show Calls Try.prog 18 #[.agg #[.int .i64 rd, .string rn]] W fun e w' => e = .returned (.bool false) ∧ Below W.heap.size W w' by
            have := IsRef_any rd rn W
            rwa [h3 hb] at this)
          clear href h3
          cases b
          · clear CI
            go_wp2_with fail
            refine (CV _).out.mono ?_
            rintro e w1 ⟨rfl, hb1⟩
            have BX1 := Below.keep hb1 lb HBOX.out
            have HB1 := HBEL.out.trans (hb1.mono (by omega))
            clear hb1 c0 c1 c2 c3
            have HBm := Lib.hid HB1
            have BXm := Lib.hid BX1
            have lm := lt_of_block BXm.out
            have d0 : w1.cell? ⟨w.heap.size, 0, none⟩ = some (.slice ao n cap) := cells_of BXm.out 0
            have d1 : w1.cell? ⟨w.heap.size, 1, none⟩ = some (.int .i64 rd) := cells_of BXm.out 1
            have d2 : w1.cell? ⟨w.heap.size, 2, none⟩ = some (.string rn) := cells_of BXm.out 2
            have d3 : w1.cell? ⟨w.heap.size, 3, none⟩ = some (.bool false) := cells_of BXm.out 3
            clear HB1 BX1
            rcases hne with h16 | h16
            · have HT9 := Lib.hid (show T = mkB (40 :: (xs.flatMap dsz ++ 41 :: dsz (rd, rn))) by rw [← HT.out]; exact (sg_ok HA.out HR.out H3.out (by rw [HN.out]; omega)).2)
              have HE9 := Lib.hid (show E = 0 by rw [← HE.out]; exact (sg_ok HA.out HR.out H3.out (by rw [HN.out]; omega)).1)
              go_wp2
              go_loopg [6, 40] n (fun g sv i wx => ∃ (k : Nat) (S : ByteArray), i = .int .i64 k ∧ sv = .string S ∧ k + g = n ∧ L S = 40 :: (xs.take k).flatMap dsz ∧ wx.heap[w.heap.size]? = some (.cells #[.slice ao n cap, .int .i64 rd, .string rn, .bool false] 36 (0, 0)) ∧ Below w.heap.size w wx)
              case atStart => exact ⟨0, _, rfl, rfl, by omega, rfl, BXm.out, HBm.out⟩
              case round =>
                obtain ⟨k, S, rfl, rfl, hkg, hS, hbox, hbel⟩ := hrel
                have HS := Lib.hid hS
                have HBOX2 := Lib.hid hbox
                have HBEL2 := Lib.hid hbel
                have lb2 := lt_of_block hbox
                have g1 : wr.cell? ⟨w.heap.size, 1, none⟩ = some (.int .i64 rd) := cells_of hbox 1
                have g2 : wr.cell? ⟨w.heap.size, 2, none⟩ = some (.string rn) := cells_of hbox 2
                have g3 : wr.cell? ⟨w.heap.size, 3, none⟩ = some (.bool false) := cells_of hbox 3
                have hSs : S.size ≤ 5000 := by
                  have h1 := flat_len (xs := xs.take k) (by
                    have := HA.out
                    rw [← List.take_append_drop k xs, List.all_append, Bool.and_eq_true] at this
                    exact this.1)
                  have h2 : (xs.take k).length ≤ k := List.length_take_le _ _
                  rw [size_L, hS, List.length_cons]
                  omega
                clear hS hbox hbel d0 d1 d2 d3
                by_cases hlt : k < n
                · have hk : k < xs.length := by rw [HN.out]; exact hlt
                  obtain ⟨ab, ao', rfl, x0, x1⟩ : ∃ ab ao', ao = some ⟨ab, ao', none⟩ ∧ wr.cell? ⟨ab, ao' + k * 2, none⟩ = some (.int .i64 xs[k].1) ∧ wr.cell? ⟨ab, ao' + k * 2 + 1, none⟩ = some (.string xs[k].2) := by
                    obtain ⟨ao2, cap', h1, _, _, h4⟩ := HV.out.below HBEL2.out
                    rcases h4 with h0 | ⟨p, o, h5, h6⟩
                    · rw [h0] at hk; simp at hk
                    · simp only [Value.slice.injEq] at h1
                      exact ⟨p, o, h1.1.trans h5, h6 k hk⟩
                  have HTK := Lib.hid (take_next hk)
                  have hqk : okz xs[k] = true := by
                    have := HA.out
                    rw [List.all_eq_true] at this
                    exact this _ (List.getElem_mem hk)
                  obtain ⟨q, hq⟩ : ∃ q, xs[k] = q := ⟨_, rfl⟩
                  rw [hq] at x0 x1 hqk
                  have HQ := Lib.hid hq
                  have CQ := fun W => Lib.hid (describe_z q.1 q.2 W hqk)
                  have hql : (mkB (dsz q)).size ≤ 262 := by rw [size_L]; exact dsz_len hqk
                  have hgg : gk - 1 < gk := by omega
                  clear hq hqk
                  obtain ⟨Z, hZ⟩ : ∃ Z, mkB (dsz q) = Z := ⟨_, rfl⟩
                  have HZ := Lib.hid hZ
                  rw [hZ] at CQ hql
                  clear hZ
                  go_wp2_with fail
                  refine (CQ _).out.mono ?_
                  rintro e w1 ⟨rfl, hb1⟩
                  have HB1 := Lib.hid ((HBEL2.out.alloc (by omega) (.cells #[.int .i64 q.1, .string q.2] 23)).trans (hb1.mono (by simp; omega)))
                  have BX1 := Lib.hid (Below.keep hb1 (by simp; omega) (heap_alloc_lt HBOX2.out))
                  clear hb1
                  go_wp2
                  go_roundg (gk - 1)
                  case measure => exact hgg
                  case rel => exact ⟨k + 1, _, by go_num, rfl, by omega, by rw [L_append, HS.out, ← HZ.out, L_mkB, HTK.out, HQ.out]; simp, BX1.out, HB1.out⟩
                · have hX : (xs.take k) = xs := List.take_of_length_le (by rw [HN.out]; omega)
                  have HSX := Lib.hid (show L S = 40 :: xs.flatMap dsz by rw [HS.out, hX])
                  clear hX
                  obtain ⟨Z, hZ⟩ : ∃ Z, mkB (dsz (rd, rn)) = Z := ⟨_, rfl⟩
                  have HZ := Lib.hid hZ
                  rw [hZ] at CD hrl
                  clear hZ
                  go_wp2_with fail
                  refine (CD _).out.mono ?_
                  rintro e w1 ⟨rfl, hb1⟩
                  have HB1 := Lib.hid (HBEL2.out.trans (hb1.mono (by omega)))
                  clear hb1
                  go_wp2
                  go_ret2
                  have e : S ++ ⟨#[41]⟩ ++ Z = T := by
                    rw [HT9.out]
                    refine eq_mkB ?_
                    rw [L_append, L_append, HSX.out, ← HZ.out, L_mkB]
                    show 40 :: xs.flatMap dsz ++ [41] ++ dsz (rd, rn) = 40 :: (xs.flatMap dsz ++ 41 :: dsz (rd, rn))
                    simp
                  rw [HE9.out, ← e]
                  exact ⟨rfl, HB1.out⟩
            · have HT9 := Lib.hid (show T = ⟨#[]⟩ by rw [← HT.out]; exact (sg_many HA.out HR.out H3.out (by rw [HN.out]; omega)).2)
              have HE9 := Lib.hid (show E = 3 by rw [← HE.out]; exact (sg_many HA.out HR.out H3.out (by rw [HN.out]; omega)).1)
              go_wp2
              go_ret2
              rw [HT9.out, HE9.out]
              exact ⟨rfl, HBm.out⟩
          · have CI2 := fun W => CI W rfl
            have H4 := Lib.hid (H3.out rfl)
            clear CI H3
            go_wp2_with fail
            refine (CV _).out.mono ?_
            rintro e w1 ⟨rfl, hb1⟩
            have BX1 := Lib.hid (Below.keep hb1 lb HBOX.out)
            have HB1 := Lib.hid (HBEL.out.trans (hb1.mono (by omega)))
            have e1 : w1.cell? ⟨w.heap.size, 1, none⟩ = some (.int .i64 rd) := cells_of BX1.out 1
            have e2 : w1.cell? ⟨w.heap.size, 2, none⟩ = some (.string rn) := cells_of BX1.out 2
            have e3 : w1.cell? ⟨w.heap.size, 3, none⟩ = some (.bool true) := cells_of BX1.out 3
            clear hb1 c0 c1 c2 c3
            go_wp2_with fail
            refine (CI2 _).out.mono ?_
            rintro e w2 ⟨rfl, hb2⟩
            have BX2 := Below.keep hb2 (lt_of_block BX1.out) BX1.out
            have HB2 := HB1.out.trans (hb2.mono HB1.out.size)
            clear hb2 e1 e2 e3
            have HBm := Lib.hid HB2
            have BXm := Lib.hid BX2
            have lm := lt_of_block BXm.out
            have d0 : w2.cell? ⟨w.heap.size, 0, none⟩ = some (.slice ao n cap) := cells_of BXm.out 0
            have d1 : w2.cell? ⟨w.heap.size, 1, none⟩ = some (.int .i64 rd) := cells_of BXm.out 1
            have d2 : w2.cell? ⟨w.heap.size, 2, none⟩ = some (.string rn) := cells_of BXm.out 2
            have d3 : w2.cell? ⟨w.heap.size, 3, none⟩ = some (.bool true) := cells_of BXm.out 3
            clear HB2 BX2
            rcases hne with h16 | h16
            · have HT9 := Lib.hid (show T = mkB (40 :: (xs.flatMap dsz ++ 41 :: [86])) by rw [← HT.out]; exact (sg_ok HA.out HR.out (fun _ => H4.out) (by rw [HN.out]; omega)).2)
              have HE9 := Lib.hid (show E = 0 by rw [← HE.out]; exact (sg_ok HA.out HR.out (fun _ => H4.out) (by rw [HN.out]; omega)).1)
              go_wp2
              go_loopg [6, 40] n (fun g sv i wx => ∃ (k : Nat) (S : ByteArray), i = .int .i64 k ∧ sv = .string S ∧ k + g = n ∧ L S = 40 :: (xs.take k).flatMap dsz ∧ wx.heap[w.heap.size]? = some (.cells #[.slice ao n cap, .int .i64 rd, .string rn, .bool true] 36 (0, 0)) ∧ Below w.heap.size w wx)
              case atStart => exact ⟨0, _, rfl, rfl, by omega, rfl, BXm.out, HBm.out⟩
              case round =>
                obtain ⟨k, S, rfl, rfl, hkg, hS, hbox, hbel⟩ := hrel
                have HS := Lib.hid hS
                have HBOX2 := Lib.hid hbox
                have HBEL2 := Lib.hid hbel
                have lb2 := lt_of_block hbox
                have g1 : wr.cell? ⟨w.heap.size, 1, none⟩ = some (.int .i64 rd) := cells_of hbox 1
                have g2 : wr.cell? ⟨w.heap.size, 2, none⟩ = some (.string rn) := cells_of hbox 2
                have g3 : wr.cell? ⟨w.heap.size, 3, none⟩ = some (.bool true) := cells_of hbox 3
                have hSs : S.size ≤ 5000 := by
                  have h1 := flat_len (xs := xs.take k) (by
                    have := HA.out
                    rw [← List.take_append_drop k xs, List.all_append, Bool.and_eq_true] at this
                    exact this.1)
                  have h2 : (xs.take k).length ≤ k := List.length_take_le _ _
                  rw [size_L, hS, List.length_cons]
                  omega
                clear hS hbox hbel d0 d1 d2 d3
                by_cases hlt : k < n
                · have hk : k < xs.length := by rw [HN.out]; exact hlt
                  obtain ⟨ab, ao', rfl, x0, x1⟩ : ∃ ab ao', ao = some ⟨ab, ao', none⟩ ∧ wr.cell? ⟨ab, ao' + k * 2, none⟩ = some (.int .i64 xs[k].1) ∧ wr.cell? ⟨ab, ao' + k * 2 + 1, none⟩ = some (.string xs[k].2) := by
                    obtain ⟨ao2, cap', h1, _, _, h4⟩ := HV.out.below HBEL2.out
                    rcases h4 with h0 | ⟨p, o, h5, h6⟩
                    · rw [h0] at hk; simp at hk
                    · simp only [Value.slice.injEq] at h1
                      exact ⟨p, o, h1.1.trans h5, h6 k hk⟩
                  have HTK := Lib.hid (take_next hk)
                  have hqk : okz xs[k] = true := by
                    have := HA.out
                    rw [List.all_eq_true] at this
                    exact this _ (List.getElem_mem hk)
                  obtain ⟨q, hq⟩ : ∃ q, xs[k] = q := ⟨_, rfl⟩
                  rw [hq] at x0 x1 hqk
                  have HQ := Lib.hid hq
                  have CQ := fun W => Lib.hid (describe_z q.1 q.2 W hqk)
                  have hql : (mkB (dsz q)).size ≤ 262 := by rw [size_L]; exact dsz_len hqk
                  have hgg : gk - 1 < gk := by omega
                  clear hq hqk
                  obtain ⟨Z, hZ⟩ : ∃ Z, mkB (dsz q) = Z := ⟨_, rfl⟩
                  have HZ := Lib.hid hZ
                  rw [hZ] at CQ hql
                  clear hZ
                  go_wp2_with fail
                  refine (CQ _).out.mono ?_
                  rintro e w1 ⟨rfl, hb1⟩
                  have HB1 := Lib.hid ((HBEL2.out.alloc (by omega) (.cells #[.int .i64 q.1, .string q.2] 23)).trans (hb1.mono (by simp; omega)))
                  have BX1 := Lib.hid (Below.keep hb1 (by simp; omega) (heap_alloc_lt HBOX2.out))
                  clear hb1
                  go_wp2
                  go_roundg (gk - 1)
                  case measure => exact hgg
                  case rel => exact ⟨k + 1, _, by go_num, rfl, by omega, by rw [L_append, HS.out, ← HZ.out, L_mkB, HTK.out, HQ.out]; simp, BX1.out, HB1.out⟩
                · have hX : (xs.take k) = xs := List.take_of_length_le (by rw [HN.out]; omega)
                  have HSX := Lib.hid (show L S = 40 :: xs.flatMap dsz by rw [HS.out, hX])
                  clear hX
                  go_wp2
                  go_ret2
                  have e : S ++ ⟨#[41, 86]⟩ = T := by
                    rw [HT9.out]
                    refine eq_mkB ?_
                    rw [L_append, HSX.out]
                    rfl
                  rw [HE9.out, ← e]
                  exact ⟨rfl, HBEL2.out⟩
            · have HT9 := Lib.hid (show T = ⟨#[]⟩ by rw [← HT.out]; exact (sg_many HA.out HR.out (fun _ => H4.out) (by rw [HN.out]; omega)).2)
              have HE9 := Lib.hid (show E = 3 by rw [← HE.out]; exact (sg_many HA.out HR.out (fun _ => H4.out) (by rw [HN.out]; omega)).1)
              go_wp2
              go_ret2
              rw [HT9.out, HE9.out]
              exact ⟨rfl, HBm.out⟩
end Go.Proofs.Ytamafgpconfipaa
