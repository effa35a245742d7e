/-
  WALK of the law that what is written is read as it was, and what is read is written as it was.
-/
import Derived.Test.YtamafgpconfipaaD13
set_option linter.unusedVariables false
set_option linter.unusedSimpArgs false
namespace Go.Proofs.Ytamafgpconfipaa
open Go.RowKit

theorem TyRow.alloc {w : World} {v : Value} {xs : List Tz} (h : TyRow w v xs) (o : Obj) : TyRow (w.alloc o) v xs := h.below ((Below.refl _ _).alloc (Nat.le_refl _) o)
set_option maxRecDepth 1000000 in
set_option maxHeartbeats 12800000 in
theorem back_walk (v : Value) (xs : List Tz) (rd : Int) (rn : ByteArray) (b : Bool) (s : ByteArray) (w : World) (hv : TyRow w v xs) :
    Calls Try.prog 5 #[.agg #[v, .int .i64 rd, .string rn, .bool b], .string s] w fun e w' => e = .returned (.bool true) ∧ Below w.heap.size w w' := by
  obtain ⟨ao, cap, rfl, -⟩ := id hv
  have HV := Lib.hid hv
  obtain ⟨n, hn⟩ : ∃ n, xs.length = n := ⟨_, rfl⟩
  have HN := Lib.hid hn
  rw [hn]
  have HV : Hid (TyRow w (.slice ao n cap) xs) := by rw [← hn]; exact hv
  have HBE := Lib.hid ((Below.refl w.heap.size w).alloc (Nat.le_refl _) (.cells #[.slice ao n cap, .int .i64 rd, .string rn, .bool b] 36))
  clear hv hn
  by_cases hs5 : s.size ≤ 50000
  · have hs6 : (s.size : Int) ≤ 50000 := by omega
    by_cases hn1 : n ≤ 1000
    · have hn2 : (n : Int) ≤ 1000 := by omega
      obtain ⟨T, hT⟩ : ∃ T, sgT xs (rd, rn) b = T := ⟨_, rfl⟩
      obtain ⟨E, hE⟩ : ∃ E, sgE xs (rd, rn) b = E := ⟨_, rfl⟩
      have CS := fun W (h : TyRow W (.slice ao n cap) xs) => Lib.hid (Sign_any (.slice ao n cap) xs rd rn b W h (by rw [HN.out]; omega))
      rw [hT, hE] at CS
      have HM := Lib.hid (show E = 0 → ∀ W, Calls Try.prog 20 #[.string T] W fun e w' => ∃ v, e = .returned (.tuple #[.agg #[v, .int .i64 rd, .string rn, .bool b], .int .i64 0]) ∧ TyRow w' v xs ∧ Below W.heap.size W w' from fun h W => by
        have := sign_meth xs rd rn b W (by rw [hE]; exact h)
        rwa [hT] at this)
      have HCASE := Lib.hid (show (∃ (ys : List Tz) (qd : Int) (qn : ByteArray) (c : Bool), sgE ys (qd, qn) c = 0 ∧ sgT ys (qd, qn) c = s ∧ ys.length ≤ 16 ∧ fieldL (L s) = none ∧
          ∀ W, Calls Try.prog 20 #[.string s] W fun e w' => ∃ v, e = .returned (.tuple #[.agg #[v, .int .i64 qd, .string qn, .bool c], .int .i64 0]) ∧ TyRow w' v ys ∧ Below W.heap.size W w') ∨
          (∀ W, ∃ err : Int, (err == 0) = false ∧ Calls Try.prog 20 #[.string s] W fun e w' => ∃ a c, e = .returned (.tuple #[.agg #[.slice a 0 c, .int .i64 0, .string ⟨#[]⟩, .bool false], .int .i64 err]) ∧ Below W.heap.size W w') by
        by_cases hm : ∃ m, methL (L s) = some m ∧ m.1.length ≤ 16
        · obtain ⟨m, hm1, hm2⟩ := hm
          have hfn : fieldL (L s) = none := by
            cases hf : fieldL (L s) with
            | none => rfl
            | some p => exact (field_meth hf hm1).elim
          refine .inl ?_
          obtain ⟨ys, qd, qn, c, h1, h2, h3, _⟩ := meth_back s w (by omega) m hm1 hm2
          refine ⟨ys, qd, qn, c, h1, h2, h3, hfn, fun W => ?_⟩
          have := sign_meth ys qd qn c W h1
          rwa [h2] at this
        · exact .inr fun W => meth_err s W (by omega) fun m hm1 => Nat.lt_of_not_le fun hm2 => hm ⟨m, hm1, hm2⟩)
      clear hT hE
      have CF := fun W => Lib.hid (Field_any s W (by omega))
      by_cases hE0 : E = 0
      · subst hE0
        have CM0 := fun W => Lib.hid (HM.out rfl W)
        clear HM
        go_enter Try.func5, Try.ntmps5
        go_wp2_with fail
        refine (shown_any _).mono ?_
        rintro e w1 ⟨rfl, hb⟩
        have M1 := Lib.hid (Below.keep hb (q := w.heap.size) (by simp) (heap_new w _))
        have W1 := Lib.hid (HBE.out.trans (hb.mono (by simp)))
        have l1 := lt_of_block M1.out
        have m10 : w1.cell? ⟨w.heap.size, 0, none⟩ = some (.slice ao n cap) := cells_of M1.out 0
        have m11 : w1.cell? ⟨w.heap.size, 1, none⟩ = some (.int .i64 rd) := cells_of M1.out 1
        have m12 : w1.cell? ⟨w.heap.size, 2, none⟩ = some (.string rn) := cells_of M1.out 2
        have m13 : w1.cell? ⟨w.heap.size, 3, none⟩ = some (.bool b) := cells_of M1.out 3
        clear hb
        go_wp2_with fail
        refine (CS _ (HV.out.below W1.out)).out.mono ?_
        rintro e w2 ⟨rfl, hb⟩
        have M2 := Lib.hid (Below.keep hb l1 M1.out)
        have W2 := Lib.hid (W1.out.trans (hb.mono W1.out.size))
        have l2 := lt_of_block M2.out
        clear hb m10 m11 m12 m13
        go_wp2_with fail
        refine (CM0 _).out.mono ?_
        rintro e w3 ⟨v2, rfl, row2, hb⟩
        obtain ⟨o2, c2, rfl, -⟩ := id row2
        have hrow2 : TyRow w3 (.slice o2 n c2) xs := by have := HN.out; rw [← this]; exact row2
        have M3 := Lib.hid (Below.keep hb l2 M2.out)
        have W3 := Lib.hid (W2.out.trans (hb.mono W2.out.size))
        have l3 := lt_of_block M3.out
        have m30 : w3.cell? ⟨w.heap.size, 0, none⟩ = some (.slice ao n cap) := cells_of M3.out 0
        have m31 : w3.cell? ⟨w.heap.size, 1, none⟩ = some (.int .i64 rd) := cells_of M3.out 1
        have m32 : w3.cell? ⟨w.heap.size, 2, none⟩ = some (.string rn) := cells_of M3.out 2
        have m33 : w3.cell? ⟨w.heap.size, 3, none⟩ = some (.bool b) := cells_of M3.out 3
        rw [HN.out]
        have ROW2 := Lib.hid (hrow2.alloc (.cells #[.slice o2 n c2, .int .i64 rd, .string rn, .bool b] 36))
        have ROWV := Lib.hid ((HV.out.below W3.out).alloc (.cells #[.slice o2 n c2, .int .i64 rd, .string rn, .bool b] 36))
        clear row2 hrow2 hb
        go_wp2_with fail
        refine (same_true _ _ xs rd rn b _ ROW2.out ROWV.out (by rw [HN.out]; omega)).mono ?_
        rintro e w4 ⟨rfl, hb⟩
        have W4 := Lib.hid ((W3.out.alloc W3.out.size (.cells #[.slice o2 n c2, .int .i64 rd, .string rn, .bool b] 36)).trans (hb.mono (by have := W3.out.size; simp; omega)))
        clear hb m30 m31 m32 m33
        rcases HCASE.out with ⟨ys, qd, qn, c, g1, g2, g3, g4, CM⟩ | CM
        · have CM := fun W => Lib.hid (CM W)
          have CT := fun W v' (h : TyRow W v' ys) => Lib.hid (Sign_any v' ys qd qn c W h (by omega))
          rw [g1, g2] at CT
          rw [g4, show fdV none = .tuple #[.agg #[.int .i64 0, .string ⟨#[]⟩], .int .i64 9] from rfl] at CF
          clear HCASE g1 g2 g4
          go_wp2_with fail
          refine (CM _).out.mono ?_
          rintro e u1 ⟨v3, rfl, row3, hb⟩
          obtain ⟨o3, c3, rfl, -⟩ := id row3
          have ROW3 := Lib.hid (row3.alloc (.cells #[.slice o3 ys.length c3, .int .i64 qd, .string qn, .bool c] 36))
          have U1 := Lib.hid (W4.out.trans (hb.mono W4.out.size))
          have p1 := U1.out.size
          clear row3 hb
          go_wp2_with fail
          refine (CT _ _ ROW3.out).out.mono ?_
          rintro e u2 ⟨rfl, hb⟩
          have U2 := Lib.hid ((U1.out.alloc p1 (.cells #[.slice o3 ys.length c3, .int .i64 qd, .string qn, .bool c] 36)).trans (hb.mono (by simp; omega)))
          clear hb
          go_wp2_with fail
          refine (CF _).out.mono ?_
          rintro e u3 ⟨rfl, hb⟩
          have U3 := Lib.hid (U2.out.trans (hb.mono U2.out.size))
          clear hb
          go_wp2
          go_ret
          exact ⟨rfl, U3.out.alloc U3.out.size _⟩
        · cases hf : fieldL (L s) with
          | none =>
            rw [hf, show fdV none = .tuple #[.agg #[.int .i64 0, .string ⟨#[]⟩], .int .i64 9] from rfl] at CF
            clear HCASE hf
            go_wp2_with fail
            obtain ⟨err, he, CM'⟩ := CM _
            refine CM'.mono ?_
            rintro e u1 ⟨a3, c3, rfl, hb⟩
            have U1 := Lib.hid (W4.out.trans (hb.mono W4.out.size))
            clear hb CM CM'
            go_wp2_with fail
            refine (CF _).out.mono ?_
            rintro e u3 ⟨rfl, hb⟩
            have U3 := Lib.hid ((U1.out.alloc U1.out.size (.cells #[.slice a3 0 c3, .int .i64 0, .string ⟨#[]⟩, .bool false] 36)).trans (hb.mono (by have := U1.out.size; simp; omega)))
            clear hb
            go_wp2
            go_ret
            exact ⟨rfl, U3.out.alloc U3.out.size _⟩
          | some p =>
            obtain ⟨hok, hLs⟩ := fieldL_some hf
            have CW := fun W => Lib.hid (show Calls Try.prog 12 #[.agg #[.int .i64 (p.1 : Int), .string (mkB p.2)]] W fun e w' => e = .returned (.tuple #[.string s, .int .i64 0]) ∧ Below W.heap.size W w' by
              have := Write_ok p.1 (mkB p.2) W (okP_okT hok)
              rwa [show mkB (descT (p.1, L (mkB p.2))) = s by rw [← mkB_L s, hLs]; rfl] at this)
            rw [hf, show fdV (some p) = .tuple #[.agg #[.int .i64 p.1, .string (mkB p.2)], .int .i64 0] from rfl] at CF
            generalize mkB p.2 = pn at *
            generalize p.1 = pd at *
            clear HCASE hf hok hLs
            go_wp2_with fail
            obtain ⟨err, he, CM'⟩ := CM _
            refine CM'.mono ?_
            rintro e u1 ⟨a3, c3, rfl, hb⟩
            have U1 := Lib.hid (W4.out.trans (hb.mono W4.out.size))
            clear hb CM CM'
            go_wp2_with fail
            refine (CF _).out.mono ?_
            rintro e u3 ⟨rfl, hb⟩
            have U3 := Lib.hid ((U1.out.alloc U1.out.size (.cells #[.slice a3 0 c3, .int .i64 0, .string ⟨#[]⟩, .bool false] 36)).trans (hb.mono (by have := U1.out.size; simp; omega)))
            clear hb
            go_wp2_with fail
            refine (CW _).out.mono ?_
            rintro e u4 ⟨rfl, hb⟩
            have U4 := Lib.hid ((U3.out.alloc U3.out.size (.cells #[.int .i64 (pd : Int), .string pn] 23)).trans (hb.mono (by have := U3.out.size; simp; omega)))
            clear hb
            go_wp2
            go_ret
            exact ⟨rfl, U4.out⟩
      · have hE1 : (E == 0) = false := beq_eq_false_iff_ne.2 hE0
        clear HM hE0
        go_enter Try.func5, Try.ntmps5
        go_wp2_with fail
        refine (shown_any _).mono ?_
        rintro e w1 ⟨rfl, hb⟩
        have M1 := Lib.hid (Below.keep hb (q := w.heap.size) (by simp) (heap_new w _))
        have W1 := Lib.hid (HBE.out.trans (hb.mono (by simp)))
        have l1 := lt_of_block M1.out
        have m10 : w1.cell? ⟨w.heap.size, 0, none⟩ = some (.slice ao n cap) := cells_of M1.out 0
        have m11 : w1.cell? ⟨w.heap.size, 1, none⟩ = some (.int .i64 rd) := cells_of M1.out 1
        have m12 : w1.cell? ⟨w.heap.size, 2, none⟩ = some (.string rn) := cells_of M1.out 2
        have m13 : w1.cell? ⟨w.heap.size, 3, none⟩ = some (.bool b) := cells_of M1.out 3
        clear hb
        go_wp2_with fail
        refine (CS _ (HV.out.below W1.out)).out.mono ?_
        rintro e w2 ⟨rfl, hb⟩
        have M2 := Lib.hid (Below.keep hb l1 M1.out)
        have W2 := Lib.hid (W1.out.trans (hb.mono W1.out.size))
        have l2 := lt_of_block M2.out
        clear hb m10 m11 m12 m13
        rcases HCASE.out with ⟨ys, qd, qn, c, g1, g2, g3, g4, CM⟩ | CM
        · have CM := fun W => Lib.hid (CM W)
          have CT := fun W v' (h : TyRow W v' ys) => Lib.hid (Sign_any v' ys qd qn c W h (by omega))
          rw [g1, g2] at CT
          rw [g4, show fdV none = .tuple #[.agg #[.int .i64 0, .string ⟨#[]⟩], .int .i64 9] from rfl] at CF
          clear HCASE g1 g2 g4
          go_wp2_with fail
          refine (CM _).out.mono ?_
          rintro e u1 ⟨v3, rfl, row3, hb⟩
          obtain ⟨o3, c3, rfl, -⟩ := id row3
          have ROW3 := Lib.hid (row3.alloc (.cells #[.slice o3 ys.length c3, .int .i64 qd, .string qn, .bool c] 36))
          have U1 := Lib.hid (W2.out.trans (hb.mono W2.out.size))
          have p1 := U1.out.size
          clear row3 hb
          go_wp2_with fail
          refine (CT _ _ ROW3.out).out.mono ?_
          rintro e u2 ⟨rfl, hb⟩
          have U2 := Lib.hid ((U1.out.alloc p1 (.cells #[.slice o3 ys.length c3, .int .i64 qd, .string qn, .bool c] 36)).trans (hb.mono (by simp; omega)))
          clear hb
          go_wp2_with fail
          refine (CF _).out.mono ?_
          rintro e u3 ⟨rfl, hb⟩
          have U3 := Lib.hid (U2.out.trans (hb.mono U2.out.size))
          clear hb
          go_wp2
          go_ret
          exact ⟨rfl, U3.out.alloc U3.out.size _⟩
        · cases hf : fieldL (L s) with
          | none =>
            rw [hf, show fdV none = .tuple #[.agg #[.int .i64 0, .string ⟨#[]⟩], .int .i64 9] from rfl] at CF
            clear HCASE hf
            go_wp2_with fail
            obtain ⟨err, he, CM'⟩ := CM _
            refine CM'.mono ?_
            rintro e u1 ⟨a3, c3, rfl, hb⟩
            have U1 := Lib.hid (W2.out.trans (hb.mono W2.out.size))
            clear hb CM CM'
            go_wp2_with fail
            refine (CF _).out.mono ?_
            rintro e u3 ⟨rfl, hb⟩
            have U3 := Lib.hid ((U1.out.alloc U1.out.size (.cells #[.slice a3 0 c3, .int .i64 0, .string ⟨#[]⟩, .bool false] 36)).trans (hb.mono (by have := U1.out.size; simp; omega)))
            clear hb
            go_wp2
            go_ret
            exact ⟨rfl, U3.out.alloc U3.out.size _⟩
          | some p =>
            obtain ⟨hok, hLs⟩ := fieldL_some hf
            have CW := fun W => Lib.hid (show Calls Try.prog 12 #[.agg #[.int .i64 (p.1 : Int), .string (mkB p.2)]] W fun e w' => e = .returned (.tuple #[.string s, .int .i64 0]) ∧ Below W.heap.size W w' by
              have := Write_ok p.1 (mkB p.2) W (okP_okT hok)
              rwa [show mkB (descT (p.1, L (mkB p.2))) = s by rw [← mkB_L s, hLs]; rfl] at this)
            rw [hf, show fdV (some p) = .tuple #[.agg #[.int .i64 p.1, .string (mkB p.2)], .int .i64 0] from rfl] at CF
            generalize mkB p.2 = pn at *
            generalize p.1 = pd at *
            clear HCASE hf hok hLs
            go_wp2_with fail
            obtain ⟨err, he, CM'⟩ := CM _
            refine CM'.mono ?_
            rintro e u1 ⟨a3, c3, rfl, hb⟩
            have U1 := Lib.hid (W2.out.trans (hb.mono W2.out.size))
            clear hb CM CM'
            go_wp2_with fail
            refine (CF _).out.mono ?_
            rintro e u3 ⟨rfl, hb⟩
            have U3 := Lib.hid ((U1.out.alloc U1.out.size (.cells #[.slice a3 0 c3, .int .i64 0, .string ⟨#[]⟩, .bool false] 36)).trans (hb.mono (by have := U1.out.size; simp; omega)))
            clear hb
            go_wp2_with fail
            refine (CW _).out.mono ?_
            rintro e u4 ⟨rfl, hb⟩
            have U4 := Lib.hid ((U3.out.alloc U3.out.size (.cells #[.int .i64 (pd : Int), .string pn] 23)).trans (hb.mono (by have := U3.out.size; simp; omega)))
            clear hb
            go_wp2
            go_ret
            exact ⟨rfl, U4.out⟩
    · have hn2 : (1000 : Int) < (n : Int) := by omega
      go_enter Try.func5, Try.ntmps5
      go_wp2_with fail
      refine (shown_any _).mono ?_
      rintro e w1 ⟨rfl, hb⟩
      have M1 := Lib.hid (Below.keep hb (q := w.heap.size) (by simp) (heap_new w _))
      have W1 := Lib.hid (HBE.out.trans (hb.mono (by simp)))
      have m10 : w1.cell? ⟨w.heap.size, 0, none⟩ = some (.slice ao n cap) := cells_of M1.out 0
      clear hb
      go_wp2
      go_ret
      exact ⟨rfl, W1.out⟩
  · have hs6 : (50000 : Int) < (s.size : Int) := by omega
    go_enter Try.func5, Try.ntmps5
    go_wp2_with fail
    refine (shown_any _).mono ?_
    rintro e w1 ⟨rfl, hb⟩
    have M1 := Lib.hid (Below.keep hb (q := w.heap.size) (by simp) (heap_new w _))
    have W1 := Lib.hid (HBE.out.trans (hb.mono (by simp)))
    have m10 : w1.cell? ⟨w.heap.size, 0, none⟩ = some (.slice ao n cap) := cells_of M1.out 0
    clear hb
    go_wp2
    go_ret
    exact ⟨rfl, W1.out⟩
end Go.Proofs.Ytamafgpconfipaa
