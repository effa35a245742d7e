/-
  CUT and joined from the texts of this seat: Jf
-/
import Derived.Test.YtmaknddlgppinaaGreatDoorX23
import Derived.Test.YtmaknddlgppinaaGreatDoorX25
set_option linter.unusedVariables false
set_option linter.unusedSimpArgs false
/-! Jf -/
namespace Go.Proofs.YtmaknddlgppinaaGreatDoor
open Go.RowKit

theorem results32 : Tryz.f32.results = #[ResultVar.cell 2 31] := by kernel_rfl
theorem und39 : Tryz.prog.underlying 39 = some (.slice 31) := by kernel_rfl
theorem info31 : ∃ i, Tryz.prog.info? 31 = some i ∧ i.zero = some (.agg #[.int .i64 0, .string ⟨#[]⟩]) ∧ i.size = 2 ∧ i.bytes = 24 := info_parts (by kernel_rfl)
set_option maxRecDepth 1000000 in
set_option maxHeartbeats 1600000 in
theorem class_any (s : ByteArray) (w : World) :
    Calls Tryz.prog 32 #[.string s] w fun e w' => e = .returned (.agg #[.int .i64 0, .string s]) ∧ Below w.heap.size w w' := by
  go_enter Tryz.func32, Tryz.ntmps32
  go_wp2
  refine bodyPost_ret (v := .agg #[.int .i64 0, .string s]) (by simp [results, results32, go_sem]) rfl ⟨rfl, ?_⟩
  exact (Below.refl w.heap.size w).alloc (Nat.le_refl _) _
/-- The type of a raw number. -/
def tyR (c : Int) : Int × ByteArray := (((pickN c 40 / 13 : Nat) : Int), if pickN c 7 = 3 then ⟨#[]⟩ else nmR c)
def tcellsR (l : List (Int × ByteArray)) : List Value := l.flatMap fun t => [.int .i64 t.1, .string t.2]
set_option maxRecDepth 1000000 in
set_option maxHeartbeats 6400000 in
theorem types_any {B : Nat} (l : List Int) (v : Value) (w : World) (hr : IRow B w v l) (hB : B ≤ w.heap.size) (hl : ∀ c ∈ l, -9223372036854775808 ≤ c ∧ c ≤ 9223372036854775807) :
    Calls Tryz.prog 20 #[v] w fun e w' => ∃ v', e = .returned v' ∧ w'.ownsRow w.heap.size 31 2 v' (min l.length 12) (tcellsR ((l.take 12).map tyR)) ∧ Below w.heap.size w w' := by
  obtain ⟨A, cap, e0, hcap, hmax, e1⟩ := id hr
  subst e0
  clear e1
  unfold maxLen at hmax
  have HR := Lib.hid hr
  have HL := Lib.hid hl
  obtain ⟨i31, hi31, hz31, hs31, hy31⟩ := info31
  clear hr hl
  obtain ⟨N, hN⟩ : ∃ N, N = min l.length 12 := ⟨_, rfl⟩
  have hN1 : N ≤ l.length := by omega
  have hN2 : N ≤ 12 := by omega
  have hN3 : N < l.length → 12 ≤ N := by omega
  rw [← hN]
  have HNN := Lib.hid hN
  clear hN
  go_enter Tryz.func20, Tryz.ntmps20
  go_wp2
  go_loopg [3, 4] N (fun gk vv iv wx => ∃ (j : Nat) (aout : Option Addr) (cout : Nat), iv = .int .i64 j ∧ vv = .slice aout j cout ∧ j + gk = N ∧ wx.ownsRow w.heap.size 31 2 vv j (tcellsR ((l.take j).map tyR)) ∧ Below w.heap.size w wx)
  case atStart => exact ⟨0, none, 0, rfl, rfl, by omega, World.ownsRow_nil _ _ _ _, Below.refl _ _⟩
  case round =>
    obtain ⟨j, aout, cout, rfl, rfl, hjg, hown, hbx⟩ := hrel
    have HOWN := Lib.hid hown
    have HBX := Lib.hid hbx
    have hbs := hbx.size
    by_cases hj : j < N
    · have hgg : gk - 1 < gk := by omega
      have hj1 : j < l.length := by omega
      obtain ⟨c, hc⟩ : ∃ c, l[j]? = some c := ⟨_, List.getElem?_eq_getElem hj1⟩
      obtain ⟨b, o, rfl, hb, hci⟩ := IRow.at_ HR.out hc
      have c0 : wr.cell? ⟨b, o + j, none⟩ = some (.int .i64 c) := (hbx.cell (p := ⟨b, o + j, none⟩) (by show b < _; omega)).trans hci
      have HC := Lib.hid hc
      have hbd := HL.out c (List.mem_of_getElem? hc)
      have PKf := Lib.hid (fun W => pick_any c 40 W hbd (by decide) (by decide))
      have PK7 := Lib.hid (fun W => pick_any c 7 W hbd (by decide) (by decide))
      have NMf := Lib.hid (fun W => name_any c W hbd)
      have hp40 := pickN_lt c (n := 40) (by decide)
      have hp7 := pickN_lt c (n := 7) (by decide)
      have ETY := Lib.hid (show tyR c = (((pickN c 40 / 13 : Nat) : Int), if pickN c 7 = 3 then ⟨#[]⟩ else nmR c) from rfl)
      generalize pickN c 40 = p40 at PKf hp40 ETY
      generalize pickN c 7 = p7 at PK7 hp7 ETY
      generalize nmR c = s at NMf ETY
      obtain ⟨d, hd⟩ : ∃ d, IntKind.i64.wrap ((p40 : Int) / 13) = d := ⟨_, rfl⟩
      have hd2 : ((p40 / 13 : Nat) : Int) = d := by rw [← hd, IntWalk.i64_in _ (by omega)]; omega
      rw [hd2] at ETY
      have hd3 : IntKind.i64.wrap ((p40 : Int).tdiv 13) = d := by rw [Int.tdiv_eq_ediv_of_nonneg (by omega)]; exact hd
      clear hd2
      have hbk : b < wr.heap.size := by omega
      clear hown hbx hc hci hbd
      go_upto_region 5 with fail
      go_cut [5] (fun v wx => ∃ q, v = .pointer (some ⟨q, 0, none⟩) ∧ wr.heap.size ≤ q ∧ wx.heap[q]? = some (.cells #[.int .i64 d, .string s] 31 (0, 0)) ∧ Below wr.heap.size wr wx)
      case first =>
          have T0 : Below wr.heap.size wr wr.drew := (Below.refl _ _).drew
          refine wp_region_held_drew (S := fun V => Below wr.heap.size wr V) (by kernel_rfl) T0 (fun hS0 => ?_)
          refine wpAnyH_take (i := 0) (oi := _) (v := ?v1) rfl (by kernel_rfl) (by kernel_rfl) (by kernel_rfl) (fun _ _ _ h => h) (Or.inl ⟨by rfl, ?hy1⟩) T0 ?_
          case hy1 => (intro V hSw; go_simp; try with_reducible rfl)
          try simp only [Act.put, List.setIfInBounds_toArray, List.set_cons_zero, List.set_cons_succ]
          refine wpAnyH_take (i := 1) (oi := _) (v := ?v2) rfl (by kernel_rfl) (by kernel_rfl) (by kernel_rfl) (fun _ _ _ h => h) (Or.inl ⟨by rfl, ?hy2⟩) T0 ?_
          case hy2 => (intro V hSw; go_simp; try with_reducible rfl)
          try simp only [Act.put, List.setIfInBounds_toArray, List.set_cons_zero, List.set_cons_succ]
          refine wpAnyH_take (i := 2) (oi := _) (v := ?v3) rfl (by kernel_rfl) (by kernel_rfl) (by kernel_rfl) (fun _ _ _ h => h) (Or.inl ⟨by rfl, ?hy3⟩) T0 ?_
          case hy3 => (intro V hSw; go_simp; try with_reducible rfl)
          try simp only [Act.put, List.setIfInBounds_toArray, List.set_cons_zero, List.set_cons_succ]
          refine wpAnyH_take (i := 3) (oi := _) (v := ?v4) rfl (by kernel_rfl) (by kernel_rfl) (by kernel_rfl) (fun _ _ _ h => h) (Or.inl ⟨by rfl, ?hy4⟩) T0 ?_
          case hy4 => (intro V hSw; have e0 := (hSw.cell (p := ⟨b, o + j, none⟩) hbk).trans c0; go_simp; try with_reducible rfl)
          try simp only [Act.put, List.setIfInBounds_toArray, List.set_cons_zero, List.set_cons_succ]
          refine wpAnyH_take (i := 6) (oi := _) (v := ?v5) rfl (by kernel_rfl) (by kernel_rfl) (by kernel_rfl) (fun _ _ _ h => h) (Or.inl ⟨by rfl, ?hy5⟩) T0 ?_
          case hy5 => (intro V hSw; go_simp; try with_reducible rfl)
          try simp only [Act.put, List.setIfInBounds_toArray, List.set_cons_zero, List.set_cons_succ]
          refine wpAnyH_take (i := 7) (oi := _) (v := ?v6) rfl (by kernel_rfl) (by kernel_rfl) (by kernel_rfl) (fun _ _ _ h => h) (Or.inl ⟨by rfl, ?hy6⟩) T0 ?_
          case hy6 => (intro V hSw; go_simp; try with_reducible rfl)
          try simp only [Act.put, List.setIfInBounds_toArray, List.set_cons_zero, List.set_cons_succ]
          refine wpAnyH_take (i := 8) (oi := _) (v := ?v7) rfl (by kernel_rfl) (by kernel_rfl) (by kernel_rfl) (fun _ _ _ h => h) (Or.inl ⟨by rfl, ?hy7⟩) T0 ?_
          case hy7 => (intro V hSw; go_simp; try with_reducible rfl)
          try simp only [Act.put, List.setIfInBounds_toArray, List.set_cons_zero, List.set_cons_succ]
          refine wpAnyH_take (i := 9) (oi := _) (v := ?v8) rfl (by kernel_rfl) (by kernel_rfl) (by kernel_rfl) (fun _ _ _ h => h) (Or.inl ⟨by rfl, ?hy8⟩) T0 ?_
          case hy8 => (intro V hSw; have e0 := (hSw.cell (p := ⟨b, o + j, none⟩) hbk).trans c0; go_simp; try with_reducible rfl)
          try simp only [Act.put, List.setIfInBounds_toArray, List.set_cons_zero, List.set_cons_succ]
          refine wpAnyH_ready (rs := [4, 12]) (by kernel_rfl) (by simp) ?_
          refine (AllReadyH.cons (o := _) rfl (fun K hK => ?_) (AllReadyH.cons (o := _) rfl (fun K hK => ?_) AllReadyH.nil))
          · go_simp
            go_at_call 62
            refine (PKf.out _).mono ?_
            rintro e wi0 ⟨rfl, hw0⟩
            subst hw0
            try go_wp2_with fail
            refine hK.out _ _ T0 (fun hS1 => ?_)
            clear hK K
            try simp only [Act.put, List.setIfInBounds_toArray, List.set_cons_zero, List.set_cons_succ]
            have T1 := T0
            refine wpAnyH_take (i := 5) (oi := _) (v := ?v9) rfl (by kernel_rfl) (by kernel_rfl) (by kernel_rfl) (fun _ _ _ h => h) (Or.inl ⟨by rfl, ?hy9⟩) T0 ?_
            case hy9 => (intro V hSw; go_simp; try with_reducible rfl)
            try simp only [Act.put, List.setIfInBounds_toArray, List.set_cons_zero, List.set_cons_succ]
            refine wpAnyH_ready (rs := [10, 12]) (by kernel_rfl) (by simp) ?_
            refine (AllReadyH.cons (o := _) rfl (fun K hK => ?_) (AllReadyH.cons (o := _) rfl (fun K hK => ?_) AllReadyH.nil))
            · go_simp
              go_at_call 61
              refine (NMf.out _).mono ?_
              rintro e wi1 ⟨rfl, hb1⟩
              try go_wp2_with fail
              have T2 := T1.trans (hb1.mono T1.size)
              refine hK.out _ _ T2 (fun hS2 => ?_)
              clear hK K
              try simp only [Act.put, List.setIfInBounds_toArray, List.set_cons_zero, List.set_cons_succ]
              refine wpAnyH_take (i := 11) (oi := _) (v := ?v10) rfl (by kernel_rfl) (by kernel_rfl) (by kernel_rfl) (fun _ _ _ h => h) (Or.inl ⟨by rfl, ?hy10⟩) T2 ?_
              case hy10 => (intro V hSw; go_simp; try with_reducible rfl)
              try simp only [Act.put, List.setIfInBounds_toArray, List.set_cons_zero, List.set_cons_succ]
              refine wpAnyH_ready (rs := [12]) (by kernel_rfl) (by simp) ?_
              refine (AllReadyH.cons (o := _) rfl (fun K hK => ?_) AllReadyH.nil)
              · go_simp
                have T3 := T2.alloc T2.size (.cells #[.int .i64 0, .string ⟨#[]⟩] 31)
                refine hK.out _ _ T3 (fun hS3 => ?_)
                clear hK K
                try simp only [Act.put, List.setIfInBounds_toArray, List.set_cons_zero, List.set_cons_succ]
                refine wpAnyH_ready (rs := [13]) (by kernel_rfl) (by simp) ?_
                refine (AllReadyH.cons (o := _) rfl (fun K hK => ?_) AllReadyH.nil)
                · have nb := hheap_new wi1 (.cells #[.int .i64 0, .string ⟨#[]⟩] 31)
                  have n0 := kcells_of nb 0
                  have n1 := kcells_of nb 1
                  have nf := kfree_of nb
                  go_simp
                  have NB := hheap_new wi1 (.cells #[.int .i64 d, .string s] 31)
                  have BS := T2.alloc T2.size (.cells #[.int .i64 d, .string s] 31)
                  refine hK.out _ _ BS (fun hS9 => ?_)
                  clear hK K
                  try simp only [Act.put, List.setIfInBounds_toArray, List.set_cons_zero, List.set_cons_succ]
                  refine wpAnyH_done (by kernel_rfl) ?_ _
                  try go_wp2
                  go_meet
                  case rel => exact ⟨_, rfl, T2.size, NB, BS⟩
            · go_simp
              have T2 := T1.alloc (Nat.le_refl _) (.cells #[.int .i64 0, .string ⟨#[]⟩] 31)
              refine hK.out _ _ T2 (fun hS2 => ?_)
              clear hK K
              try simp only [Act.put, List.setIfInBounds_toArray, List.set_cons_zero, List.set_cons_succ]
              refine wpAnyH_ready (rs := [10]) (by kernel_rfl) (by simp) ?_
              refine (AllReadyH.cons (o := _) rfl (fun K hK => ?_) AllReadyH.nil)
              · go_simp
                go_at_call 61
                refine (NMf.out _).mono ?_
                rintro e wi1 ⟨rfl, hb1⟩
                have nb := lalloc_facts0 hb1
                try go_wp2_with fail
                have T3 := T2.trans (hb1.mono T2.size)
                refine hK.out _ _ T3 (fun hS3 => ?_)
                clear hK K
                try simp only [Act.put, List.setIfInBounds_toArray, List.set_cons_zero, List.set_cons_succ]
                refine wpAnyH_take (i := 11) (oi := _) (v := ?v11) rfl (by kernel_rfl) (by kernel_rfl) (by kernel_rfl) (fun _ _ _ h => h) (Or.inl ⟨by rfl, ?hy11⟩) T3 ?_
                case hy11 => (intro V hSw; go_simp; try with_reducible rfl)
                try simp only [Act.put, List.setIfInBounds_toArray, List.set_cons_zero, List.set_cons_succ]
                refine wpAnyH_ready (rs := [13]) (by kernel_rfl) (by simp) ?_
                refine (AllReadyH.cons (o := _) rfl (fun K hK => ?_) AllReadyH.nil)
                · have n0 := kcells_of nb 0
                  have n1 := kcells_of nb 1
                  have nf := kfree_of nb
                  go_simp
                  have NB := set2 nb (.int .i64 d) (.string s)
                  have BS := (T3.setCell (p := ⟨wr.heap.size, 0, none⟩) (Nat.le_refl _) (.int .i64 d)).setCell (p := ⟨wr.heap.size, 1, none⟩) (Nat.le_refl _) (.string s)
                  refine hK.out _ _ BS (fun hS9 => ?_)
                  clear hK K
                  try simp only [Act.put, List.setIfInBounds_toArray, List.set_cons_zero, List.set_cons_succ]
                  refine wpAnyH_done (by kernel_rfl) ?_ _
                  try go_wp2
                  go_meet
                  case rel => exact ⟨_, rfl, Nat.le_refl _, NB, BS⟩
          · go_simp
            have T1 := T0.alloc (Nat.le_refl _) (.cells #[.int .i64 0, .string ⟨#[]⟩] 31)
            refine hK.out _ _ T1 (fun hS1 => ?_)
            clear hK K
            try simp only [Act.put, List.setIfInBounds_toArray, List.set_cons_zero, List.set_cons_succ]
            refine wpAnyH_ready (rs := [4]) (by kernel_rfl) (by simp) ?_
            refine (AllReadyH.cons (o := _) rfl (fun K hK => ?_) AllReadyH.nil)
            · go_simp
              go_at_call 62
              refine (PKf.out _).mono ?_
              rintro e wi0 ⟨rfl, hw0⟩
              subst hw0
              try go_wp2_with fail
              refine hK.out _ _ T1 (fun hS2 => ?_)
              clear hK K
              try simp only [Act.put, List.setIfInBounds_toArray, List.set_cons_zero, List.set_cons_succ]
              have T2 := T1
              refine wpAnyH_take (i := 5) (oi := _) (v := ?v12) rfl (by kernel_rfl) (by kernel_rfl) (by kernel_rfl) (fun _ _ _ h => h) (Or.inl ⟨by rfl, ?hy12⟩) T1 ?_
              case hy12 => (intro V hSw; go_simp; try with_reducible rfl)
              try simp only [Act.put, List.setIfInBounds_toArray, List.set_cons_zero, List.set_cons_succ]
              refine wpAnyH_ready (rs := [10]) (by kernel_rfl) (by simp) ?_
              refine (AllReadyH.cons (o := _) rfl (fun K hK => ?_) AllReadyH.nil)
              · go_simp
                go_at_call 61
                refine (NMf.out _).mono ?_
                rintro e wi1 ⟨rfl, hb1⟩
                have nb := lalloc_facts0 hb1
                try go_wp2_with fail
                have T3 := T2.trans (hb1.mono T2.size)
                refine hK.out _ _ T3 (fun hS3 => ?_)
                clear hK K
                try simp only [Act.put, List.setIfInBounds_toArray, List.set_cons_zero, List.set_cons_succ]
                refine wpAnyH_take (i := 11) (oi := _) (v := ?v13) rfl (by kernel_rfl) (by kernel_rfl) (by kernel_rfl) (fun _ _ _ h => h) (Or.inl ⟨by rfl, ?hy13⟩) T3 ?_
                case hy13 => (intro V hSw; go_simp; try with_reducible rfl)
                try simp only [Act.put, List.setIfInBounds_toArray, List.set_cons_zero, List.set_cons_succ]
                refine wpAnyH_ready (rs := [13]) (by kernel_rfl) (by simp) ?_
                refine (AllReadyH.cons (o := _) rfl (fun K hK => ?_) AllReadyH.nil)
                · have n0 := kcells_of nb 0
                  have n1 := kcells_of nb 1
                  have nf := kfree_of nb
                  go_simp
                  have NB := set2 nb (.int .i64 d) (.string s)
                  have BS := (T3.setCell (p := ⟨wr.heap.size, 0, none⟩) (Nat.le_refl _) (.int .i64 d)).setCell (p := ⟨wr.heap.size, 1, none⟩) (Nat.le_refl _) (.string s)
                  refine hK.out _ _ BS (fun hS9 => ?_)
                  clear hK K
                  try simp only [Act.put, List.setIfInBounds_toArray, List.set_cons_zero, List.set_cons_succ]
                  refine wpAnyH_done (by kernel_rfl) ?_ _
                  try go_wp2
                  go_meet
                  case rel => exact ⟨_, rfl, Nat.le_refl _, NB, BS⟩
      obtain ⟨q, rfl, hq1, hq2, hb2⟩ := hcut
      have c1 := (hb2.cell (p := ⟨b, o + j, none⟩) hbk).trans c0
      have hqn : wc.heap.size ≥ wr.heap.size := hb2.size
      have hql := lt_of_block hq2
      have hbc : b < wc.heap.size := by omega
      obtain ⟨t, ht⟩ : ∃ t, t = (if p7 = 3 then (⟨#[]⟩ : ByteArray) else s) := ⟨_, rfl⟩
      rw [← ht] at ETY
      by_cases h3 : p7 = 3
      · have e3 : (((p7 : Nat) : Int) == 3) = true := by simp; omega
        rw [if_pos h3] at ht
        subst ht
        have hb3 := hb2.setCell (p := ⟨q, 1, none⟩) hq1 (.string ⟨#[]⟩)
        have hq3 : (wc.setCell ⟨q, 1, none⟩ (.string ⟨#[]⟩)).heap[q]? = some (.cells #[.int .i64 d, .string ⟨#[]⟩] 31 (0, 0)) := by rw [heap_set_eq hq2]; rfl
        have HQ3 := Lib.hid hq3
        have HB3 := Lib.hid hb3
        have k0 := kcells_of hq2 0
        have k1 := kcells_of hq2 1
        have kf := kfree_of hq2
        clear h3 hq3 hb3 hq2 hb2
        go_wp2_with fail
        refine (PK7.out _).mono ?_
        rintro e wi ⟨rfl, hw⟩
        subst hw
        go_upto_region 8 with fail
        have hq3 := HQ3.out
        have hb3 := HB3.out
        clear HQ3 HB3
        generalize wi.setCell ⟨q, 1, none⟩ (.string ⟨#[]⟩) = wd at hq3 hb3 ⊢
        clear c1 k0 k1 kf
        generalize (⟨#[]⟩ : ByteArray) = t at ETY hq3
        have f0 := kcells_of hq3 0
        have f1 := kcells_of hq3 1
        have ff := kfree_of hq3
        simp only [List.getElem?_toArray, List.getElem?_cons_succ, List.getElem?_cons_zero] at f0 f1
        have hq9 := lt_of_block hq3
        have OW := Lib.hid (hown_below HOWN.out hb3)
        have BX := Lib.hid (HBX.out.trans (hb3.mono hbs))
        have hb9 := hb3.size
        clear hq3 hb3
        go_wp2_with (at_builtin; refine hwpList_append_own2 rfl (.tmp 35) (.tmp 37) 39 rfl w.heap.size 31 i31 (.agg #[.int .i64 0, .string ⟨#[]⟩]) 2 24 und39 hi31 hz31 hs31 hy31 rfl (by decide) (.slice aout j cout) j _ rfl (World.ownsRow.alloc OW.out _) ⟨_, 0, none⟩ 1 1 [.int .i64 d, .string t] rfl rfl (knew_at _ [.int .i64 d, .string t] 31 _ (by simp)) (fun u hu => by simp at hu; rcases hu with rfl | rfl <;> rfl) (by unfold maxLen; omega) (by omega) (by simp; omega) ?_; intro v3 w3 own3 hg3 hm3; have B3 := Below.grown (BX.out.alloc (by omega) _) hg3 (by simp; omega) (fun q hq => hown_block_ge OW.out q hq); obtain ⟨a3, c3, rfl⟩ := hown_form own3; have OW3 := Lib.hid own3; have BB3 := Lib.hid B3; clear own3 hg3 hm3 B3)
        go_roundg (gk - 1)
        case measure => exact hgg
        case rel =>
          refine ⟨j + 1, _, _, by go_num, rfl, by omega, ?_, BB3.out⟩
          have e : tcellsR ((l.take (j + 1)).map tyR) = tcellsR ((l.take j).map tyR) ++ [.int .i64 d, .string t] := by
            rw [List.take_add_one, HC.out]
            simp only [Option.toList_some, List.map_append, List.map_cons, List.map_nil, ETY.out]
            unfold tcellsR
            rw [List.flatMap_append]
            rfl
          rw [e]
          exact OW3.out
      · have e3 : (((p7 : Nat) : Int) == 3) = false := by simp; omega
        rw [if_neg h3] at ht
        subst ht
        clear h3
        go_wp2_with fail
        refine (PK7.out _).mono ?_
        rintro e wi ⟨rfl, hw⟩
        subst hw
        go_upto_region 8 with fail
        have hq3 := hq2
        have hb3 := hb2
        clear hq2 hb2 c1
        have f0 := kcells_of hq3 0
        have f1 := kcells_of hq3 1
        have ff := kfree_of hq3
        simp only [List.getElem?_toArray, List.getElem?_cons_succ, List.getElem?_cons_zero] at f0 f1
        have hq9 := lt_of_block hq3
        have OW := Lib.hid (hown_below HOWN.out hb3)
        have BX := Lib.hid (HBX.out.trans (hb3.mono hbs))
        have hb9 := hb3.size
        clear hq3 hb3
        go_wp2_with (at_builtin; refine hwpList_append_own2 rfl (.tmp 35) (.tmp 37) 39 rfl w.heap.size 31 i31 (.agg #[.int .i64 0, .string ⟨#[]⟩]) 2 24 und39 hi31 hz31 hs31 hy31 rfl (by decide) (.slice aout j cout) j _ rfl (World.ownsRow.alloc OW.out _) ⟨_, 0, none⟩ 1 1 [.int .i64 d, .string t] rfl rfl (knew_at _ [.int .i64 d, .string t] 31 _ (by simp)) (fun u hu => by simp at hu; rcases hu with rfl | rfl <;> rfl) (by unfold maxLen; omega) (by omega) (by simp; omega) ?_; intro v3 w3 own3 hg3 hm3; have B3 := Below.grown (BX.out.alloc (by omega) _) hg3 (by simp; omega) (fun q hq => hown_block_ge OW.out q hq); obtain ⟨a3, c3, rfl⟩ := hown_form own3; have OW3 := Lib.hid own3; have BB3 := Lib.hid B3; clear own3 hg3 hm3 B3)
        go_roundg (gk - 1)
        case measure => exact hgg
        case rel =>
          refine ⟨j + 1, _, _, by go_num, rfl, by omega, ?_, BB3.out⟩
          have e : tcellsR ((l.take (j + 1)).map tyR) = tcellsR ((l.take j).map tyR) ++ [.int .i64 d, .string t] := by
            rw [List.take_add_one, HC.out]
            simp only [Option.toList_some, List.map_append, List.map_cons, List.map_nil, ETY.out]
            unfold tcellsR
            rw [List.flatMap_append]
            rfl
          rw [e]
          exact OW3.out
    · obtain rfl : N = j := by omega
      clear hown hbx
      go_upto_region 3 with fail
      go_cut [13] (fun v wx => v = .bool false ∧ wx = wr)
      case first =>
        go_wp2
        all_goals (go_meet; case rel => exact ⟨by first | rfl | (congr 1; simp; omega), rfl⟩)
      obtain ⟨rfl, hwc⟩ := hcut
      subst hwc
      go_wp2
      go_ret
      have e : (l.take N).map tyR = (l.take 12).map tyR := by
        have hN := HNN.out
        by_cases h70 : l.length ≤ 12
        · rw [List.take_of_length_le (by omega), List.take_of_length_le h70]
        · rw [show N = 12 by omega]
      have hf := HOWN.out
      rw [e] at hf
      exact ⟨_, rfl, hf, HBX.out⟩
end Go.Proofs.YtmaknddlgppinaaGreatDoor
