/-
  WALK of the document's 'Sign'.
-/
import Derived.Test.YtamafgpconfipaaD12
import Derived.Test.YtamafgpconfipaaNb
set_option linter.unusedVariables false
set_option linter.unusedSimpArgs false
namespace Go.Proofs.Ytamafgpconfipaa
open Go.RowKit

theorem reft_cases {d : Int} {s : ByteArray} (h : okT d (L s) = true) : (0 < d ∧ d ≤ 4 ∧ refT d (L s) = true) ∨ (d = 0 ∧ s = ⟨#[]⟩ ∧ refT d (L s) = false) ∨ (d = 0 ∧ s.toList.isEmpty = false ∧ ¬ s.toList = [] ∧ refT d (L s) = true) := by
  have hd := okT_dims h
  unfold refT
  rw [h, Bool.true_and]
  by_cases h0 : 0 < d
  · exact .inl ⟨h0, hd.2, by rw [decide_eq_false (by omega)]; rfl⟩
  · have e : d = 0 := by omega
    refine .inr ?_
    by_cases hz : s.size = 0
    · have e2 : s = ⟨#[]⟩ := by
        obtain ⟨a⟩ := s
        have : a.size = 0 := hz
        rw [Array.eq_empty_of_size_eq_zero this]
      refine .inl ⟨e, e2, ?_⟩
      rw [e, size0_nil hz]; rfl
    · refine .inr ⟨e, emp_ofpos (by omega), ne_ofpos (by omega), ?_⟩
      have := sizepos_ne (s := s) (by omega)
      rw [e]
      cases hL : L s with
      | nil => exact absurd hL this
      | cons c t => rfl
set_option maxRecDepth 1000000 in
set_option maxHeartbeats 12800000 in
theorem refSign_any (v : Value) (xs : List Tz) (rd : Int) (rn : ByteArray) (b : Bool) (w : World) (hv : TyRow w v xs) (hl : xs.length ≤ 1000) (hz : ∀ x ∈ xs, x.2.size ≤ 2000000) (hrz : rn.size ≤ 2000000) :
    Calls Try.prog 23 #[.agg #[v, .int .i64 rd, .string rn, .bool b]] w fun e w' => e = .returned (.tuple #[.string (sgT xs (rd, rn) b), .int .i64 (sgE xs (rd, rn) b)]) ∧ Below w.heap.size w w' := by
  obtain ⟨ao, cap, rfl, -⟩ := id hv
  obtain ⟨T, hT⟩ : ∃ T, sgT xs (rd, rn) b = T := ⟨_, rfl⟩
  obtain ⟨E, hE⟩ : ∃ E, sgE xs (rd, rn) b = E := ⟨_, rfl⟩
  rw [hT, hE]
  have HT := Lib.hid hT
  have HE := Lib.hid hE
  have HZS := Lib.hid hz
  have CR := fun W => Lib.hid (Big.refWrite_any rd rn W hrz)
  have HBE := Lib.hid ((Below.refl w.heap.size w).alloc (Nat.le_refl _) (.cells #[.slice ao xs.length cap, .int .i64 rd, .string rn, .bool b] 39))
  have HV := Lib.hid hv
  obtain ⟨n, hn⟩ : ∃ n, xs.length = n := ⟨_, rfl⟩
  have HN := Lib.hid hn
  rw [hn] at hl HBE ⊢
  have HV : Hid (TyRow w (.slice ao xs.length cap) xs) := Lib.hid hv
  clear hT hE hv hn hz hrz
  go_enter Try.func23, Try.ntmps23
  go_wp2
  go_loopg [4, 5] n (fun g sv i wx => ∃ (k : Nat) (S : ByteArray), i = .int .i64 k ∧ sv = .string S ∧ k + g = n ∧ L S = 40 :: (xs.take k).flatMap dsz ∧ (xs.take k).all okz = true ∧ wx.heap[w.heap.size]? = some (.cells #[.slice ao n cap, .int .i64 rd, .string rn, .bool b] 39 (0, 0)) ∧ Below w.heap.size w wx)
  case atStart => exact ⟨0, _, rfl, rfl, by omega, rfl, by simp, heap_new w _, HBE.out⟩
  case round =>
    obtain ⟨k, S, rfl, rfl, hkg, hS, hall, hbox, hbel⟩ := hrel
    have HS := Lib.hid hS
    have HALL := Lib.hid hall
    have HBOX := Lib.hid hbox
    have HBEL := Lib.hid hbel
    have lb := lt_of_block hbox
    have r0 : wr.cell? ⟨w.heap.size, 0, none⟩ = some (.slice ao n cap) := cells_of hbox 0
    have r1 : wr.cell? ⟨w.heap.size, 1, none⟩ = some (.int .i64 rd) := cells_of hbox 1
    have r2 : wr.cell? ⟨w.heap.size, 2, none⟩ = some (.string rn) := cells_of hbox 2
    have r3 : wr.cell? ⟨w.heap.size, 3, none⟩ = some (.bool b) := cells_of hbox 3
    have hSs : S.size ≤ 300000 := by
      have h1 := flat_len hall
      have h2 : (xs.take k).length ≤ k := List.length_take_le _ _
      rw [size_L, hS, List.length_cons]
      omega
    clear hS hall hbox hbel
    by_cases hlt : k < n
    · obtain ⟨q, p1, o1, rfl, hq1, x0, x1⟩ := row_at HV.out HN.out HBEL.out hlt
      have HTK := Lib.hid (show xs.take (k + 1) = xs.take k ++ [q] by rw [List.take_add_one, hq1]; rfl)
      have hmem := List.mem_of_getElem? hq1
      have HMEM := Lib.hid hmem
      have hgg : gk - 1 < gk := by omega
      have CW := fun W => Lib.hid (Big.refWrite_any q.1 q.2 W (HZS.out q hmem))
      clear hmem hq1
      cases hok : okT q.1 (L q.2) with
      | false =>
        rw [(wr_no hok).1, (wr_no hok).2] at CW
        have hno : xs.all okz = false := by
          rw [List.all_eq_false]
          exact ⟨q, HMEM.out, by unfold okz; rw [hok]; simp⟩
        have HT9 := Lib.hid (show T = ⟨#[]⟩ by rw [← HT.out]; exact (sg_no1 hno).2)
        have HE9 := Lib.hid (show E = 9 by rw [← HE.out]; exact (sg_no1 hno).1)
        clear hok hno
        go_wp2_with fail
        refine (CW _).out.mono ?_
        rintro e u1 ⟨rfl, hb⟩
        have U1 := Lib.hid (HBEL.out.trans (hb.mono HBEL.out.size))
        clear hb
        go_wp2
        go_ret2
        rw [HT9.out, HE9.out]
        exact ⟨rfl, U1.out⟩
      | true =>
        rw [(wr_ok hok).1, (wr_ok hok).2, show mkB (descT (q.1.toNat, L q.2)) = mkB (dsz q) from rfl] at CW
        have HOK := Lib.hid (show okz q = true from hok)
        have hql : (mkB (dsz q)).size ≤ 262 := by rw [size_L]; exact dsz_len HOK.out
        obtain ⟨Z, hZ⟩ : ∃ Z, mkB (dsz q) = Z := ⟨_, rfl⟩
        have HZ := Lib.hid hZ
        rw [hZ] at CW hql
        clear hZ hok
        go_wp2_with fail
        refine (CW _).out.mono ?_
        rintro e u1 ⟨rfl, hb⟩
        have U1 := Lib.hid (HBEL.out.trans (hb.mono HBEL.out.size))
        have B1 := Lib.hid (Below.keep hb lb HBOX.out)
        clear hb
        go_wp2
        go_roundg (gk - 1)
        case measure => exact hgg
        case rel => exact ⟨k + 1, _, by go_num, rfl, by omega, by rw [L_append, HS.out, ← HZ.out, L_mkB, HTK.out]; simp, by rw [HTK.out, List.all_append, HALL.out]; simp [HOK.out], B1.out, U1.out⟩
    · have hX : xs.take k = xs := List.take_of_length_le (by rw [HN.out]; omega)
      have HSX := Lib.hid (show L S = 40 :: xs.flatMap dsz by rw [HS.out, hX])
      have HA := Lib.hid (show xs.all okz = true by have := HALL.out; rwa [hX] at this)
      clear hX
      have hne : ((n : Int) ≤ 16 ∨ (16 : Int) < (n : Int)) := by omega
      cases hr : okT rd (L rn) with
      | false =>
        rw [(wr_no hr).1, (wr_no hr).2] at CR
        have HT9 := Lib.hid (show T = ⟨#[]⟩ by rw [← HT.out]; exact (sg_no2 (show okz (rd, rn) = false from hr)).2)
        have HE9 := Lib.hid (show E = 9 by rw [← HE.out]; exact (sg_no2 (show okz (rd, rn) = false from hr)).1)
        clear hr hne
        go_wp2_with fail
        refine (CR _).out.mono ?_
        rintro e u1 ⟨rfl, hb⟩
        have U1 := Lib.hid (HBEL.out.trans (hb.mono HBEL.out.size))
        clear hb
        go_wp2
        go_ret2
        rw [HT9.out, HE9.out]
        exact ⟨rfl, U1.out⟩
      | true =>
        rw [(wr_ok hr).1, (wr_ok hr).2, show mkB (descT (rd.toNat, L rn)) = mkB (dsz (rd, rn)) from rfl] at CR
        have HR := Lib.hid (show okz (rd, rn) = true from hr)
        have hrl : (mkB (dsz (rd, rn))).size ≤ 262 := by rw [size_L]; exact dsz_len HR.out
        have hcs := reft_cases hr
        obtain ⟨Z, hZ⟩ : ∃ Z, mkB (dsz (rd, rn)) = Z := ⟨_, rfl⟩
        have HZ := Lib.hid hZ
        rw [hZ] at CR hrl
        clear hZ hr
        cases b with
        | false =>
          clear hcs
          rcases hne with h16 | h16
          · have HT9 := Lib.hid (show T = mkB (40 :: (xs.flatMap dsz ++ 41 :: dsz (rd, rn))) by rw [← HT.out]; exact (sg_ok HA.out HR.out (fun h => by simp at h) (by rw [HN.out]; omega)).2)
            have HE9 := Lib.hid (show E = 0 by rw [← HE.out]; exact (sg_ok HA.out HR.out (fun h => by simp at h) (by rw [HN.out]; omega)).1)
            go_wp2_with fail
            refine (CR _).out.mono ?_
            rintro e u1 ⟨rfl, hb⟩
            have U1 := Lib.hid (HBEL.out.trans (hb.mono HBEL.out.size))
            have B1 := Lib.hid (Below.keep hb lb HBOX.out)
            have lu1 := lt_of_block B1.out
            have s0 : u1.cell? ⟨w.heap.size, 0, none⟩ = some (.slice ao n cap) := cells_of B1.out 0
            have s3 : u1.cell? ⟨w.heap.size, 3, none⟩ = some (.bool false) := cells_of B1.out 3
            clear hb r0 r1 r2 r3
            go_wp2
            go_ret2
            have e : S ++ ⟨#[41]⟩ ++ Z = T := by
              rw [HT9.out]
              refine eq_mkB ?_
              rw [L_append, L_append, HSX.out, ← HZ.out, L_mkB]
              show 40 :: xs.flatMap dsz ++ [41] ++ dsz (rd, rn) = 40 :: (xs.flatMap dsz ++ 41 :: dsz (rd, rn))
              simp
            rw [HE9.out, ← e]
            exact ⟨rfl, U1.out⟩
          · have HT9 := Lib.hid (show T = ⟨#[]⟩ by rw [← HT.out]; exact (sg_many HA.out HR.out (fun h => by simp at h) (by rw [HN.out]; omega)).2)
            have HE9 := Lib.hid (show E = 3 by rw [← HE.out]; exact (sg_many HA.out HR.out (fun h => by simp at h) (by rw [HN.out]; omega)).1)
            go_wp2_with fail
            refine (CR _).out.mono ?_
            rintro e u1 ⟨rfl, hb⟩
            have U1 := Lib.hid (HBEL.out.trans (hb.mono HBEL.out.size))
            have B1 := Lib.hid (Below.keep hb lb HBOX.out)
            have lu1 := lt_of_block B1.out
            have s0 : u1.cell? ⟨w.heap.size, 0, none⟩ = some (.slice ao n cap) := cells_of B1.out 0
            have s3 : u1.cell? ⟨w.heap.size, 3, none⟩ = some (.bool false) := cells_of B1.out 3
            clear hb r0 r1 r2 r3
            go_wp2
            go_ret2
            rw [HT9.out, HE9.out]
            exact ⟨rfl, U1.out⟩
        | true =>
          rcases hcs with ⟨g1, g2, g3⟩ | ⟨g1, g2, g3⟩ | ⟨g1, g2, g4, g3⟩
          · have hd0 : ¬ (rd = 0) := by omega
            have HT9 := Lib.hid (show T = ⟨#[]⟩ by rw [← HT.out]; exact (sg_no3 g3).2)
            have HE9 := Lib.hid (show E = 9 by rw [← HE.out]; exact (sg_no3 g3).1)
            clear g3 hne
            go_wp2_with fail
            refine (CR _).out.mono ?_
            rintro e u1 ⟨rfl, hb⟩
            have U1 := Lib.hid (HBEL.out.trans (hb.mono HBEL.out.size))
            have B1 := Lib.hid (Below.keep hb lb HBOX.out)
            have lu1 := lt_of_block B1.out
            have s1 : u1.cell? ⟨w.heap.size, 1, none⟩ = some (.int .i64 rd) := cells_of B1.out 1
            have s2 : u1.cell? ⟨w.heap.size, 2, none⟩ = some (.string rn) := cells_of B1.out 2
            have s3 : u1.cell? ⟨w.heap.size, 3, none⟩ = some (.bool true) := cells_of B1.out 3
            clear hb r0 r1 r2 r3
            go_wp2
            go_ret2
            rw [HT9.out, HE9.out]
            exact ⟨rfl, U1.out⟩
          · subst g1 g2
            rcases hne with h16 | h16
            · have HT9 := Lib.hid (show T = mkB (40 :: (xs.flatMap dsz ++ 41 :: [86])) by rw [← HT.out]; exact (sg_ok HA.out HR.out (fun _ => g3) (by rw [HN.out]; omega)).2)
              have HE9 := Lib.hid (show E = 0 by rw [← HE.out]; exact (sg_ok HA.out HR.out (fun _ => g3) (by rw [HN.out]; omega)).1)
              clear g3
              go_wp2_with fail
              refine (CR _).out.mono ?_
              rintro e u1 ⟨rfl, hb⟩
              have U1 := Lib.hid (HBEL.out.trans (hb.mono HBEL.out.size))
              have B1 := Lib.hid (Below.keep hb lb HBOX.out)
              have lu1 := lt_of_block B1.out
              have s0 : u1.cell? ⟨w.heap.size, 0, none⟩ = some (.slice ao n cap) := cells_of B1.out 0
              have s1 : u1.cell? ⟨w.heap.size, 1, none⟩ = some (.int .i64 0) := cells_of B1.out 1
              have s2 : u1.cell? ⟨w.heap.size, 2, none⟩ = some (.string ⟨#[]⟩) := cells_of B1.out 2
              have s3 : u1.cell? ⟨w.heap.size, 3, none⟩ = some (.bool true) := cells_of B1.out 3
              clear hb r0 r1 r2 r3
              go_wp2
              go_ret2
              have e : S ++ ⟨#[41, 86]⟩ = T := by
                rw [HT9.out]
                refine eq_mkB ?_
                rw [L_append, HSX.out]
                rfl
              rw [HE9.out, ← e]
              exact ⟨rfl, U1.out⟩
            · have HT9 := Lib.hid (show T = ⟨#[]⟩ by rw [← HT.out]; exact (sg_many HA.out HR.out (fun _ => g3) (by rw [HN.out]; omega)).2)
              have HE9 := Lib.hid (show E = 3 by rw [← HE.out]; exact (sg_many HA.out HR.out (fun _ => g3) (by rw [HN.out]; omega)).1)
              clear g3
              go_wp2_with fail
              refine (CR _).out.mono ?_
              rintro e u1 ⟨rfl, hb⟩
              have U1 := Lib.hid (HBEL.out.trans (hb.mono HBEL.out.size))
              have B1 := Lib.hid (Below.keep hb lb HBOX.out)
              have lu1 := lt_of_block B1.out
              have s0 : u1.cell? ⟨w.heap.size, 0, none⟩ = some (.slice ao n cap) := cells_of B1.out 0
              have s1 : u1.cell? ⟨w.heap.size, 1, none⟩ = some (.int .i64 0) := cells_of B1.out 1
              have s2 : u1.cell? ⟨w.heap.size, 2, none⟩ = some (.string ⟨#[]⟩) := cells_of B1.out 2
              have s3 : u1.cell? ⟨w.heap.size, 3, none⟩ = some (.bool true) := cells_of B1.out 3
              clear hb r0 r1 r2 r3
              go_wp2
              go_ret2
              rw [HT9.out, HE9.out]
              exact ⟨rfl, U1.out⟩
          · subst g1
            have HT9 := Lib.hid (show T = ⟨#[]⟩ by rw [← HT.out]; exact (sg_no3 g3).2)
            have HE9 := Lib.hid (show E = 9 by rw [← HE.out]; exact (sg_no3 g3).1)
            clear g3 hne
            go_wp2_with fail
            refine (CR _).out.mono ?_
            rintro e u1 ⟨rfl, hb⟩
            have U1 := Lib.hid (HBEL.out.trans (hb.mono HBEL.out.size))
            have B1 := Lib.hid (Below.keep hb lb HBOX.out)
            have lu1 := lt_of_block B1.out
            have s1 : u1.cell? ⟨w.heap.size, 1, none⟩ = some (.int .i64 0) := cells_of B1.out 1
            have s2 : u1.cell? ⟨w.heap.size, 2, none⟩ = some (.string rn) := cells_of B1.out 2
            have s3 : u1.cell? ⟨w.heap.size, 3, none⟩ = some (.bool true) := cells_of B1.out 3
            clear hb r0 r1 r2 r3
            go_wp2
            go_ret2
            rw [HT9.out, HE9.out]
            exact ⟨rfl, U1.out⟩
end Go.Proofs.Ytamafgpconfipaa
