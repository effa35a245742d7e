/-
  CUT and joined from the texts of this seat: Jf Ke Kgp Rp
-/
import Derived.Test.YtmaknddlgppinaaGreatDoorY01
import Derived.Test.YtmaknddlgppinaaGreatDoorY28
import Derived.Test.YtmaknddlgppinaaGreatDoorY30
import Derived.Test.YtmaknddlgppinaaGreatDoorY10
import Derived.Test.YtmaknddlgppinaaGreatDoorY29
import Derived.Test.YtmaknddlgppinaaGreatDoorY02
import Derived.Deep.QuietTactic
set_option linter.unusedVariables false
set_option linter.unusedSimpArgs false
namespace Go.Proofs.YtmaknddlgppinaaGreatDoor
open Go.RowKit
theorem results32 : Tryz.f32.results = #[ResultVar.cell 2 31] := by kernel_rfl
theorem und39 : Tryz.prog.underlying 39 = some (.slice 31) := by kernel_rfl
theorem info31 : ∃ i, Tryz.prog.info? 31 = some i ∧ i.zero = some (.agg #[.int .i64 0, .string ⟨#[]⟩]) ∧ i.size = 2 ∧ i.bytes = 24 := info_parts (by kernel_rfl)
set_option maxRecDepth 1000000 in
set_option maxHeartbeats 1600000 in
theorem class_any (s : ByteArray) (w : World) :
  Calls Tryz.prog 32 #[.string s] w fun e w' => e = .returned (.agg #[.int .i64 0, .string s]) ∧ Below w.heap.size w w' := by
 go_enter Tryz.func32, Tryz.ntmps32
 go_wp2
 refine bodyPost_ret (v := .agg #[.int .i64 0, .string s]) (by simp [results, results32, go_sem]) rfl ⟨rfl, ?_⟩
 exact (Below.refl w.heap.size w).alloc (Nat.le_refl _) _
/-- The type of a raw number. -/
def tyR (c : Int) : Int × ByteArray := (((pickN c 40 / 13 : Nat) : Int), if pickN c 7 = 3 then ⟨#[]⟩ else nmR c)
def tcellsR (l : List (Int × ByteArray)) : List Value := l.flatMap fun t => [.int .i64 t.1, .string t.2]
set_option maxRecDepth 1000000 in
set_option maxHeartbeats 6400000 in
theorem types_any {B : Nat} (l : List Int) (v : Value) (w : World) (hr : IRow B w v l) (hB : B ≤ w.heap.size) (hl : ∀ c ∈ l, -9223372036854775808 ≤ c ∧ c ≤ 9223372036854775807) :
  Calls Tryz.prog 20 #[v] w fun e w' => ∃ v', e = .returned v' ∧ w'.ownsRow w.heap.size 31 2 v' (min l.length 12) (tcellsR ((l.take 12).map tyR)) ∧ Below w.heap.size w w' := by
 obtain ⟨A, cap, e0, hcap, hmax, e1⟩ := id hr
 subst e0
 clear e1
 unfold maxLen at hmax
 have HR := Lib.hid hr
 have HL := Lib.hid hl
 obtain ⟨i31, hi31, hz31, hs31, hy31⟩ := info31
 clear hr hl
 obtain ⟨N, hN⟩ : ∃ N, N = min l.length 12 := ⟨_, rfl⟩
 have hN1 : N ≤ l.length := by omega
 have hN2 : N ≤ 12 := by omega
 have hN3 : N < l.length → 12 ≤ N := by omega
 rw [← hN]
 have HNN := Lib.hid hN
 clear hN
 go_enter Tryz.func20, Tryz.ntmps20
 go_wp2
 go_loopg [3, 4] N (fun gk vv iv wx => ∃ (j : Nat) (aout : Option Addr) (cout : Nat), iv = .int .i64 j ∧ vv = .slice aout j cout ∧ j + gk = N ∧ wx.ownsRow w.heap.size 31 2 vv j (tcellsR ((l.take j).map tyR)) ∧ Below w.heap.size w wx)
 case atStart => exact ⟨0, none, 0, rfl, rfl, by omega, World.ownsRow_nil _ _ _ _, Below.refl _ _⟩
 case round =>
  obtain ⟨j, aout, cout, rfl, rfl, hjg, hown, hbx⟩ := hrel
  have HOWN := Lib.hid hown
  have HBX := Lib.hid hbx
  have hbs := hbx.size
  by_cases hj : j < N
  ·have hgg : gk - 1 < gk := by omega
   have hj1 : j < l.length := by omega
   obtain ⟨c, hc⟩ : ∃ c, l[j]? = some c := ⟨_, List.getElem?_eq_getElem hj1⟩
   obtain ⟨b, o, rfl, hb, hci⟩ := IRow.at_ HR.out hc
   have c0 : wr.cell? ⟨b, o + j, none⟩ = some (.int .i64 c) := (hbx.cell (p := ⟨b, o + j, none⟩) (by show b < _; omega)).trans hci
   have HC := Lib.hid hc
   have hbd := HL.out c (List.mem_of_getElem? hc)
   have PKf := Lib.hid (fun W => pick_any c 40 W hbd (by decide) (by decide))
   have PK7 := Lib.hid (fun W => pick_any c 7 W hbd (by decide) (by decide))
   have NMf := Lib.hid (fun W => name_any c W hbd)
   have hp40 := pickN_lt c (n := 40) (by decide)
   have hp7 := pickN_lt c (n := 7) (by decide)
   have ETY := Lib.hid (show tyR c = (((pickN c 40 / 13 : Nat) : Int), if pickN c 7 = 3 then ⟨#[]⟩ else nmR c) from rfl)
   generalize pickN c 40 = p40 at PKf hp40 ETY
   generalize pickN c 7 = p7 at PK7 hp7 ETY
   generalize nmR c = s at NMf ETY
   obtain ⟨d, hd⟩ : ∃ d, IntKind.i64.wrap ((p40 : Int) / 13) = d := ⟨_, rfl⟩
   have hd2 : ((p40 / 13 : Nat) : Int) = d := by rw [← hd, IntWalk.i64_in _ (by omega)]; omega
   rw [hd2] at ETY
   have hd3 : IntKind.i64.wrap ((p40 : Int).tdiv 13) = d := by rw [Int.tdiv_eq_ediv_of_nonneg (by omega)]; exact hd
   clear hd2
   have hbk : b < wr.heap.size := by omega
   clear hown hbx hc hci hbd
   go_upto_region 5 with fail
   go_cut [5] (fun v wx => ∃ q, v = .pointer (some ⟨q, 0, none⟩) ∧ wr.heap.size ≤ q ∧ wx.heap[q]? = some (.cells #[.int .i64 d, .string s] 31 (0, 0)) ∧ Below wr.heap.size wr wx)
   case first =>
     have T0 : Below wr.heap.size wr wr.drew := (Below.refl _ _).drew
     refine wp_region_held_drew (S := fun V => Below wr.heap.size wr V) (by kernel_rfl) T0 (fun hS0 => ?_)
     refine wpAnyH_take (i := 0) (oi := _) (v := ?v1) rfl (by kernel_rfl) (by kernel_rfl) (by kernel_rfl) (fun _ _ _ h => h) (Or.inl ⟨by rfl, ?hy1⟩) T0 ?_
     case hy1 => (intro V hSw; go_simp; try with_reducible rfl)
     try simp only [pu0, puN, pu1, pu2, pu3]
     refine wpAnyH_take (i := 1) (oi := _) (v := ?v2) rfl (by kernel_rfl) (by kernel_rfl) (by kernel_rfl) (fun _ _ _ h => h) (Or.inl ⟨by rfl, ?hy2⟩) T0 ?_
     case hy2 => (intro V hSw; go_simp; try with_reducible rfl)
     try simp only [pu0, puN, pu1, pu2, pu3]
     refine wpAnyH_take (i := 2) (oi := _) (v := ?v3) rfl (by kernel_rfl) (by kernel_rfl) (by kernel_rfl) (fun _ _ _ h => h) (Or.inl ⟨by rfl, ?hy3⟩) T0 ?_
     case hy3 => (intro V hSw; go_simp; try with_reducible rfl)
     try simp only [pu0, puN, pu1, pu2, pu3]
     refine wpAnyH_take (i := 3) (oi := _) (v := ?v4) rfl (by kernel_rfl) (by kernel_rfl) (by kernel_rfl) (fun _ _ _ h => h) (Or.inl ⟨by rfl, ?hy4⟩) T0 ?_
     case hy4 => (intro V hSw; have e0 := (hSw.cell (p := ⟨b, o + j, none⟩) hbk).trans c0; go_simp; try with_reducible rfl)
     try simp only [pu0, puN, pu1, pu2, pu3]
     refine wpAnyH_take (i := 6) (oi := _) (v := ?v5) rfl (by kernel_rfl) (by kernel_rfl) (by kernel_rfl) (fun _ _ _ h => h) (Or.inl ⟨by rfl, ?hy5⟩) T0 ?_
     case hy5 => (intro V hSw; go_simp; try with_reducible rfl)
     try simp only [pu0, puN, pu1, pu2, pu3]
     refine wpAnyH_take (i := 7) (oi := _) (v := ?v6) rfl (by kernel_rfl) (by kernel_rfl) (by kernel_rfl) (fun _ _ _ h => h) (Or.inl ⟨by rfl, ?hy6⟩) T0 ?_
     case hy6 => (intro V hSw; go_simp; try with_reducible rfl)
     try simp only [pu0, puN, pu1, pu2, pu3]
     refine wpAnyH_take (i := 8) (oi := _) (v := ?v7) rfl (by kernel_rfl) (by kernel_rfl) (by kernel_rfl) (fun _ _ _ h => h) (Or.inl ⟨by rfl, ?hy7⟩) T0 ?_
     case hy7 => (intro V hSw; go_simp; try with_reducible rfl)
     try simp only [pu0, puN, pu1, pu2, pu3]
     refine wpAnyH_take (i := 9) (oi := _) (v := ?v8) rfl (by kernel_rfl) (by kernel_rfl) (by kernel_rfl) (fun _ _ _ h => h) (Or.inl ⟨by rfl, ?hy8⟩) T0 ?_
     case hy8 => (intro V hSw; have e0 := (hSw.cell (p := ⟨b, o + j, none⟩) hbk).trans c0; go_simp; try with_reducible rfl)
     try simp only [pu0, puN, pu1, pu2, pu3]
     refine wpAnyH_ready (rs := [4, 12]) (by kernel_rfl) (by simp) ?_
     refine (AllReadyH.cons (o := _) rfl (fun K hK => ?_) (AllReadyH.cons (o := _) rfl (fun K hK => ?_) AllReadyH.nil))
     ·go_simp
      go_at_call 62
      refine (PKf.out _).mono ?_
      rintro e wi0 ⟨rfl, hw0⟩
      subst hw0
      try go_wp2_with fail
      refine hK.out _ _ T0 (fun hS1 => ?_)
      clear hK K
      try simp only [pu0, puN, pu1, pu2, pu3]
      have T1 := T0
      refine wpAnyH_take (i := 5) (oi := _) (v := ?v9) rfl (by kernel_rfl) (by kernel_rfl) (by kernel_rfl) (fun _ _ _ h => h) (Or.inl ⟨by rfl, ?hy9⟩) T0 ?_
      case hy9 => (intro V hSw; go_simp; try with_reducible rfl)
      try simp only [pu0, puN, pu1, pu2, pu3]
      refine wpAnyH_ready (rs := [10, 12]) (by kernel_rfl) (by simp) ?_
      refine (AllReadyH.cons (o := _) rfl (fun K hK => ?_) (AllReadyH.cons (o := _) rfl (fun K hK => ?_) AllReadyH.nil))
      ·go_simp
       go_at_call 61
       refine (NMf.out _).mono ?_
       rintro e wi1 ⟨rfl, hb1⟩
       try go_wp2_with fail
       have T2 := T1.trans (hb1.mono T1.size)
       refine hK.out _ _ T2 (fun hS2 => ?_)
       clear hK K
       try simp only [pu0, puN, pu1, pu2, pu3]
       refine wpAnyH_take (i := 11) (oi := _) (v := ?v10) rfl (by kernel_rfl) (by kernel_rfl) (by kernel_rfl) (fun _ _ _ h => h) (Or.inl ⟨by rfl, ?hy10⟩) T2 ?_
       case hy10 => (intro V hSw; go_simp; try with_reducible rfl)
       try simp only [pu0, puN, pu1, pu2, pu3]
       refine wpAnyH_ready (rs := [12]) (by kernel_rfl) (by simp) ?_
       refine (AllReadyH.cons (o := _) rfl (fun K hK => ?_) AllReadyH.nil)
       ·go_simp
        have T3 := T2.alloc T2.size (.cells #[.int .i64 0, .string ⟨#[]⟩] 31)
        refine hK.out _ _ T3 (fun hS3 => ?_)
        clear hK K
        try simp only [pu0, puN, pu1, pu2, pu3]
        refine wpAnyH_ready (rs := [13]) (by kernel_rfl) (by simp) ?_
        refine (AllReadyH.cons (o := _) rfl (fun K hK => ?_) AllReadyH.nil)
        ·have nb := hheap_new wi1 (.cells #[.int .i64 0, .string ⟨#[]⟩] 31)
         have n0 := kcells_of nb 0
         have n1 := kcells_of nb 1
         have nf := kfree_of nb
         go_simp
         have NB := hheap_new wi1 (.cells #[.int .i64 d, .string s] 31)
         have BS := T2.alloc T2.size (.cells #[.int .i64 d, .string s] 31)
         refine hK.out _ _ BS (fun hS9 => ?_)
         clear hK K
         try simp only [pu0, puN, pu1, pu2, pu3]
         refine wpAnyH_done (by kernel_rfl) ?_ _
         try go_wp2
         go_meet
         case rel => exact ⟨_, rfl, T2.size, NB, BS⟩
      ·go_simp
       have T2 := T1.alloc (Nat.le_refl _) (.cells #[.int .i64 0, .string ⟨#[]⟩] 31)
       refine hK.out _ _ T2 (fun hS2 => ?_)
       clear hK K
       try simp only [pu0, puN, pu1, pu2, pu3]
       refine wpAnyH_ready (rs := [10]) (by kernel_rfl) (by simp) ?_
       refine (AllReadyH.cons (o := _) rfl (fun K hK => ?_) AllReadyH.nil)
       ·go_simp
        go_at_call 61
        refine (NMf.out _).mono ?_
        rintro e wi1 ⟨rfl, hb1⟩
        have nb := lalloc_facts0 hb1
        try go_wp2_with fail
        have T3 := T2.trans (hb1.mono T2.size)
        refine hK.out _ _ T3 (fun hS3 => ?_)
        clear hK K
        try simp only [pu0, puN, pu1, pu2, pu3]
        refine wpAnyH_take (i := 11) (oi := _) (v := ?v11) rfl (by kernel_rfl) (by kernel_rfl) (by kernel_rfl) (fun _ _ _ h => h) (Or.inl ⟨by rfl, ?hy11⟩) T3 ?_
        case hy11 => (intro V hSw; go_simp; try with_reducible rfl)
        try simp only [pu0, puN, pu1, pu2, pu3]
        refine wpAnyH_ready (rs := [13]) (by kernel_rfl) (by simp) ?_
        refine (AllReadyH.cons (o := _) rfl (fun K hK => ?_) AllReadyH.nil)
        ·have n0 := kcells_of nb 0
         have n1 := kcells_of nb 1
         have nf := kfree_of nb
         go_simp
         have NB := set2 nb (.int .i64 d) (.string s)
         have BS := (T3.setCell (p := ⟨wr.heap.size, 0, none⟩) (Nat.le_refl _) (.int .i64 d)).setCell (p := ⟨wr.heap.size, 1, none⟩) (Nat.le_refl _) (.string s)
         refine hK.out _ _ BS (fun hS9 => ?_)
         clear hK K
         try simp only [pu0, puN, pu1, pu2, pu3]
         refine wpAnyH_done (by kernel_rfl) ?_ _
         try go_wp2
         go_meet
         case rel => exact ⟨_, rfl, Nat.le_refl _, NB, BS⟩
     ·go_simp
      have T1 := T0.alloc (Nat.le_refl _) (.cells #[.int .i64 0, .string ⟨#[]⟩] 31)
      refine hK.out _ _ T1 (fun hS1 => ?_)
      clear hK K
      try simp only [pu0, puN, pu1, pu2, pu3]
      refine wpAnyH_ready (rs := [4]) (by kernel_rfl) (by simp) ?_
      refine (AllReadyH.cons (o := _) rfl (fun K hK => ?_) AllReadyH.nil)
      ·go_simp
       go_at_call 62
       refine (PKf.out _).mono ?_
       rintro e wi0 ⟨rfl, hw0⟩
       subst hw0
       try go_wp2_with fail
       refine hK.out _ _ T1 (fun hS2 => ?_)
       clear hK K
       try simp only [pu0, puN, pu1, pu2, pu3]
       have T2 := T1
       refine wpAnyH_take (i := 5) (oi := _) (v := ?v12) rfl (by kernel_rfl) (by kernel_rfl) (by kernel_rfl) (fun _ _ _ h => h) (Or.inl ⟨by rfl, ?hy12⟩) T1 ?_
       case hy12 => (intro V hSw; go_simp; try with_reducible rfl)
       try simp only [pu0, puN, pu1, pu2, pu3]
       refine wpAnyH_ready (rs := [10]) (by kernel_rfl) (by simp) ?_
       refine (AllReadyH.cons (o := _) rfl (fun K hK => ?_) AllReadyH.nil)
       ·go_simp
        go_at_call 61
        refine (NMf.out _).mono ?_
        rintro e wi1 ⟨rfl, hb1⟩
        have nb := lalloc_facts0 hb1
        try go_wp2_with fail
        have T3 := T2.trans (hb1.mono T2.size)
        refine hK.out _ _ T3 (fun hS3 => ?_)
        clear hK K
        try simp only [pu0, puN, pu1, pu2, pu3]
        refine wpAnyH_take (i := 11) (oi := _) (v := ?v13) rfl (by kernel_rfl) (by kernel_rfl) (by kernel_rfl) (fun _ _ _ h => h) (Or.inl ⟨by rfl, ?hy13⟩) T3 ?_
        case hy13 => (intro V hSw; go_simp; try with_reducible rfl)
        try simp only [pu0, puN, pu1, pu2, pu3]
        refine wpAnyH_ready (rs := [13]) (by kernel_rfl) (by simp) ?_
        refine (AllReadyH.cons (o := _) rfl (fun K hK => ?_) AllReadyH.nil)
        ·have n0 := kcells_of nb 0
         have n1 := kcells_of nb 1
         have nf := kfree_of nb
         go_simp
         have NB := set2 nb (.int .i64 d) (.string s)
         have BS := (T3.setCell (p := ⟨wr.heap.size, 0, none⟩) (Nat.le_refl _) (.int .i64 d)).setCell (p := ⟨wr.heap.size, 1, none⟩) (Nat.le_refl _) (.string s)
         refine hK.out _ _ BS (fun hS9 => ?_)
         clear hK K
         try simp only [pu0, puN, pu1, pu2, pu3]
         refine wpAnyH_done (by kernel_rfl) ?_ _
         try go_wp2
         go_meet
         case rel => exact ⟨_, rfl, Nat.le_refl _, NB, BS⟩
   obtain ⟨q, rfl, hq1, hq2, hb2⟩ := hcut
   have c1 := (hb2.cell (p := ⟨b, o + j, none⟩) hbk).trans c0
   have hqn : wc.heap.size ≥ wr.heap.size := hb2.size
   have hql := lt_of_block hq2
   have hbc : b < wc.heap.size := by omega
   obtain ⟨t, ht⟩ : ∃ t, t = (if p7 = 3 then (⟨#[]⟩ : ByteArray) else s) := ⟨_, rfl⟩
   rw [← ht] at ETY
   by_cases h3 : p7 = 3
   ·have e3 : (((p7 : Nat) : Int) == 3) = true := by simp; omega
    rw [if_pos h3] at ht
    subst ht
    have hb3 := hb2.setCell (p := ⟨q, 1, none⟩) hq1 (.string ⟨#[]⟩)
    have hq3 : (wc.setCell ⟨q, 1, none⟩ (.string ⟨#[]⟩)).heap[q]? = some (.cells #[.int .i64 d, .string ⟨#[]⟩] 31 (0, 0)) := by rw [heap_set_eq hq2]; rfl
    have HQ3 := Lib.hid hq3
    have HB3 := Lib.hid hb3
    have k0 := kcells_of hq2 0
    have k1 := kcells_of hq2 1
    have kf := kfree_of hq2
    clear h3 hq3 hb3 hq2 hb2
    go_wp2_with fail
    refine (PK7.out _).mono ?_
    rintro e wi ⟨rfl, hw⟩
    subst hw
    go_upto_region 8 with fail
    have hq3 := HQ3.out
    have hb3 := HB3.out
    clear HQ3 HB3
    generalize wi.setCell ⟨q, 1, none⟩ (.string ⟨#[]⟩) = wd at hq3 hb3 ⊢
    clear c1 k0 k1 kf
    generalize (⟨#[]⟩ : ByteArray) = t at ETY hq3
    have f0 := kcells_of hq3 0
    have f1 := kcells_of hq3 1
    have ff := kfree_of hq3
    simp only [List.getElem?_toArray, List.getElem?_cons_succ, List.getElem?_cons_zero] at f0 f1
    have hq9 := lt_of_block hq3
    have OW := Lib.hid (hown_below HOWN.out hb3)
    have BX := Lib.hid (HBX.out.trans (hb3.mono hbs))
    have hb9 := hb3.size
    clear hq3 hb3
    go_wp2_with (at_builtin; refine hwpList_append_own2 rfl (.tmp 35) (.tmp 37) 39 rfl w.heap.size 31 i31 (.agg #[.int .i64 0, .string ⟨#[]⟩]) 2 24 und39 hi31 hz31 hs31 hy31 rfl (by decide) (.slice aout j cout) j _ rfl (World.ownsRow.alloc OW.out _) ⟨_, 0, none⟩ 1 1 [.int .i64 d, .string t] rfl rfl (knew_at _ [.int .i64 d, .string t] 31 _ (by simp)) (fun u hu => by simp at hu; rcases hu with rfl | rfl <;> rfl) (by unfold maxLen; omega) (by omega) (by simp; omega) ?_; intro v3 w3 own3 hg3 hm3; have B3 := Below.grown (BX.out.alloc (by omega) _) hg3 (by simp; omega) (fun q hq => hown_block_ge OW.out q hq); obtain ⟨a3, c3, rfl⟩ := hown_form own3; have OW3 := Lib.hid own3; have BB3 := Lib.hid B3; clear own3 hg3 hm3 B3)
    go_roundg (gk - 1)
    case measure => exact hgg
    case rel =>
     refine ⟨j + 1, _, _, by go_num, rfl, by omega, ?_, BB3.out⟩
     have e : tcellsR ((l.take (j + 1)).map tyR) = tcellsR ((l.take j).map tyR) ++ [.int .i64 d, .string t] := by
      rw [List.take_add_one, HC.out]
      simp only [Option.toList_some, List.map_append, List.map_cons, List.map_nil, ETY.out]
      unfold tcellsR
      rw [List.flatMap_append]
      rfl
     rw [e]
     exact OW3.out
   ·have e3 : (((p7 : Nat) : Int) == 3) = false := by simp; omega
    rw [if_neg h3] at ht
    subst ht
    clear h3
    go_wp2_with fail
    refine (PK7.out _).mono ?_
    rintro e wi ⟨rfl, hw⟩
    subst hw
    go_upto_region 8 with fail
    have hq3 := hq2
    have hb3 := hb2
    clear hq2 hb2 c1
    have f0 := kcells_of hq3 0
    have f1 := kcells_of hq3 1
    have ff := kfree_of hq3
    simp only [List.getElem?_toArray, List.getElem?_cons_succ, List.getElem?_cons_zero] at f0 f1
    have hq9 := lt_of_block hq3
    have OW := Lib.hid (hown_below HOWN.out hb3)
    have BX := Lib.hid (HBX.out.trans (hb3.mono hbs))
    have hb9 := hb3.size
    clear hq3 hb3
    go_wp2_with (at_builtin; refine hwpList_append_own2 rfl (.tmp 35) (.tmp 37) 39 rfl w.heap.size 31 i31 (.agg #[.int .i64 0, .string ⟨#[]⟩]) 2 24 und39 hi31 hz31 hs31 hy31 rfl (by decide) (.slice aout j cout) j _ rfl (World.ownsRow.alloc OW.out _) ⟨_, 0, none⟩ 1 1 [.int .i64 d, .string t] rfl rfl (knew_at _ [.int .i64 d, .string t] 31 _ (by simp)) (fun u hu => by simp at hu; rcases hu with rfl | rfl <;> rfl) (by unfold maxLen; omega) (by omega) (by simp; omega) ?_; intro v3 w3 own3 hg3 hm3; have B3 := Below.grown (BX.out.alloc (by omega) _) hg3 (by simp; omega) (fun q hq => hown_block_ge OW.out q hq); obtain ⟨a3, c3, rfl⟩ := hown_form own3; have OW3 := Lib.hid own3; have BB3 := Lib.hid B3; clear own3 hg3 hm3 B3)
    go_roundg (gk - 1)
    case measure => exact hgg
    case rel =>
     refine ⟨j + 1, _, _, by go_num, rfl, by omega, ?_, BB3.out⟩
     have e : tcellsR ((l.take (j + 1)).map tyR) = tcellsR ((l.take j).map tyR) ++ [.int .i64 d, .string t] := by
      rw [List.take_add_one, HC.out]
      simp only [Option.toList_some, List.map_append, List.map_cons, List.map_nil, ETY.out]
      unfold tcellsR
      rw [List.flatMap_append]
      rfl
     rw [e]
     exact OW3.out
  ·obtain rfl : N = j := by omega
   clear hown hbx
   go_upto_region 3 with fail
   go_cut [13] (fun v wx => v = .bool false ∧ wx = wr)
   case first =>
    go_wp2
    all_goals (go_meet; case rel => exact ⟨by first | rfl | (congr 1; simp; omega), rfl⟩)
   obtain ⟨rfl, hwc⟩ := hcut
   subst hwc
   go_wp2
   go_ret
   have e : (l.take N).map tyR = (l.take 12).map tyR := by
    have hN := HNN.out
    by_cases h70 : l.length ≤ 12
    ·rw [List.take_of_length_le (by omega), List.take_of_length_le h70]
    ·rw [show N = 12 by omega]
   have hf := HOWN.out
   rw [e] at hf
   exact ⟨_, rfl, hf, HBX.out⟩
theorem bytes_eq {s t : ByteArray} (h : s.data.toList = t.data.toList) : s = t := by
 cases s; cases t
 congr 1
 exact Array.toList_inj.1 h
/-- A row of types. -/
def TRow (B : Nat) (w : World) (v : Value) (ts : List (Int × ByteArray)) : Prop := Row B 2 w v ts.length (tcellsR ts)
theorem tcells_at {ts : List (Int × ByteArray)} : ∀ {k : Nat} {t : Int × ByteArray}, ts[k]? = some t → (tcellsR ts)[k * 2]? = some (.int .i64 t.1) ∧ (tcellsR ts)[k * 2 + 1]? = some (.string t.2) := by
 induction ts with
 | nil => intro k t h; simp at h
 | cons x r ih =>
  intro k t h
  cases k with
  | zero => simp only [List.getElem?_cons_zero, Option.some.injEq] at h; subst h; exact ⟨rfl, rfl⟩
  | succ k =>
   simp only [List.getElem?_cons_succ] at h
   have := ih h
   rw [show (k + 1) * 2 = k * 2 + 2 by omega]
   exact this
theorem TRow.at_ {B : Nat} {w : World} {A : Option Addr} {n cap k : Nat} {ts : List (Int × ByteArray)} {t : Int × ByteArray} (h : TRow B w (.slice A n cap) ts) (hk : ts[k]? = some t) :
  ∃ b o, A = some ⟨b, o, none⟩ ∧ b < B ∧ w.cell? ⟨b, o + k * 2, none⟩ = some (.int .i64 t.1) ∧ w.cell? ⟨b, o + k * 2 + 1, none⟩ = some (.string t.2) := by
 obtain ⟨A', cap', e, _, _, _, h2⟩ := h
 injection e with e1 e2 e3
 subst e1
 have hlt : k < ts.length := (List.getElem?_eq_some_iff.1 hk).1
 obtain ⟨b, o, e, hb, hc⟩ := h2 (by omega)
 have ht := tcells_at hk
 exact ⟨b, o, e, hb, hc _ _ ht.1, by rw [Nat.add_assoc]; exact hc _ _ ht.2⟩
theorem TRow.length {B : Nat} {w : World} {v : Value} {ts : List (Int × ByteArray)} (h : TRow B w v ts) : ∃ A cap, v = .slice A ts.length cap ∧ ts.length ≤ cap ∧ ts.length ≤ maxLen := by
 obtain ⟨A, cap, e, h1, h2, _⟩ := h
 exact ⟨A, cap, e, h1, h2⟩
def typesR (l : List Int) : List (Int × ByteArray) := (l.take 12).map tyR
theorem tyR_small (c : Int) : (tyR c).2.size ≤ 1000000 := by
 unfold tyR
 split
 ·exact Nat.zero_le _
 ·exact nmR_small c
theorem types_small {l : List Int} {k : Nat} {t : Int × ByteArray} (h : (typesR l)[k]? = some t) : t.2.size ≤ 1000000 := by
 unfold typesR at h
 rw [List.getElem?_map] at h
 cases hx : (l.take 12)[k]? with
 | none => rw [hx] at h; cases h
 | some c => rw [hx] at h; cases h; exact tyR_small c
theorem neq31 (d d' : Int) (s s' : ByteArray) (w : World) : (binOp .neq 31 (.agg #[.int .i64 d, .string s]) (.agg #[.int .i64 d', .string s'])).run Tryz.prog w = .ok (.bool (!decide (d = d' ∧ s = s'))) w := by
 have h : (Op.equal 31 (.agg #[.int .i64 d, .string s]) (.agg #[.int .i64 d', .string s'])).run Tryz.prog w = .ok (decide (d = d' ∧ s = s')) w := eq31 d d' s s' w
 simp only [binOp]
 simp [h]
/-- What Lub answers. -/
structure LubIs (cs : List PC) (a b : TY) (d : Int) (s : ByteArray) (ok : Bool) : Prop where
 hok : ok = true ↔ LubOk cs a b
 heq : ok = true → (d, s.data.toList) = lubT cs a b
 hno : ok = false → d = 0 ∧ s = ⟨#[]⟩
 hsz : s.size ≤ 1000000
theorem LubOk.symm {cs : List PC} {a b : TY} (h : LubOk cs a b) : LubOk cs b a := ⟨h.2.1, h.1, h.2.2.2, h.2.2.1⟩
theorem pair_eq {d d' : Int} {s s' : ByteArray} {t : TY} (h : (d, s.data.toList) = t) (h' : (d', s'.data.toList) = t) : d = d' ∧ s = s' := by
 rw [← h'] at h
 injection h with h1 h2
 exact ⟨h1, bytes_eq h2⟩
theorem LubIs.above {cs : List PC} (G : Good cs) {a b : TY} {d : Int} {s : ByteArray} (h : LubIs cs a b d s true) : SubT cs a (d, s.data.toList) ∧ SubT cs b (d, s.data.toList) := by
 rw [h.heq rfl]
 exact sub_lub G (h.hok.1 rfl)
theorem sub_self {cs : List PC} (G : Good cs) {a : TY} : SubT cs a a ↔ hasT cs a := ⟨fun h => h.1, sub_eq G⟩
section
variable {B tb mb cap ow : Nat} {A : Option Addr} {cs : List PC} {cl sl : Nat → Nat} {S : Nat → List Nat} {w : World}
theorem lub_is_any {da db : Int} {sa sb : ByteArray} {w : World} (h : HT B tb mb A cap ow cs cl sl S w) (hsa : sa.size ≤ 1000000) (hsb : sb.size ≤ 1000000) :
  Calls Tryz.prog 21 #[.pointer (some ⟨tb, 0, none⟩), .agg #[.int .i64 da, .string sa], .agg #[.int .i64 db, .string sb]] w fun e w' => ∃ d s ok, e = .returned (.tuple #[.agg #[.int .i64 d, .string s], .bool ok]) ∧ LubIs cs (da, sa.data.toList) (db, sb.data.toList) d s ok ∧ Below w.heap.size w w' := by
 refine (Lub_any h hsa hsb).mono ?_
 rintro e w' ⟨d, s, ok, he, h1, h2, h3, h4, h5⟩
 exact ⟨d, s, ok, he, ⟨h1, h2, h3, h4⟩, h5⟩
end
end Go.Proofs.YtmaknddlgppinaaGreatDoor
namespace Go.Proofs.YtmaknddlgppinaaGreatDoor
open Classical
/-- The names right above a class. -/
def upR (c : PC) : List (List UInt8) := c.ifaces ++ if c.super = [] then [] else [c.super]
/-- All names above classes are classes' names. -/
structure Lkd (cs : List PC) : Prop where
 named : ix cs [] = none
 up : ∀ (i : Nat) (c : PC), cs[i]? = some c → ∀ nm ∈ upR c, ∃ j, ix cs nm = some j
theorem lkd_of {cs : List PC} (h0 : ∀ c ∈ cs, c.name ≠ []) (hk : ∀ (i : Nat) (c : PC), cs[i]? = some c → kindE cs c = 0 ∨ (c.super = [] ∧ c.ifaces = [])) : Lkd cs := by
 refine ⟨ix_none.2 h0, fun i c hc nm hm => ?_⟩
 rcases hk i c hc with h | ⟨h1, h2⟩
 ·obtain ⟨h1, h2, _⟩ := kindE_zero h
  unfold upR at hm
  rcases List.mem_append.1 hm with hm | hm
  ·exact h2 nm hm
  ·split at hm
   ·cases hm
   ·obtain rfl := List.mem_singleton.1 hm
    exact h1
 ·unfold upR at hm
  rw [h2, if_pos h1] at hm
  cases hm
theorem Good.lkd {cs : List PC} (G : Good cs) : Lkd cs :=
 lkd_of G.named fun i c hc => by
  by_cases h0 : i = 0
  ·subst h0
   rw [G.obj] at hc
   cases hc
   exact .inr ⟨rfl, rfl⟩
  ·exact .inl (G.kind i c hc h0)
theorem up_upR {cs : List PC} (h : Lkd cs) {i j : Nat} : Up cs i j ↔ ∃ c nm, cs[i]? = some c ∧ nm ∈ upR c ∧ ix cs nm = some j := by
 constructor
 ·rintro ⟨c, hc, h1 | ⟨nm, hm, h1⟩⟩
  ·refine ⟨c, c.super, hc, ?_, h1⟩
   unfold upR
   have : c.super ≠ [] := fun e => by rw [e, h.named] at h1; cases h1
   rw [if_neg this]
   simp
  ·exact ⟨c, nm, hc, by unfold upR; exact List.mem_append_left _ hm, h1⟩
 ·rintro ⟨c, nm, hc, hm, h1⟩
  refine ⟨c, hc, ?_⟩
  unfold upR at hm
  rcases List.mem_append.1 hm with hm | hm
  ·exact .inr ⟨nm, hm, h1⟩
  ·split at hm
   ·cases hm
   ·obtain rfl := List.mem_singleton.1 hm
    exact .inl h1
/-- Numbers below n, all different: no more than n. -/
theorem nodup_lt : ∀ (n : Nat) (l : List Nat), l.Nodup → (∀ x ∈ l, x < n) → l.length ≤ n
 | 0, l, _, h => by
  cases l with
  | nil => simp
  | cons x l => exact absurd (h x (by simp)) (by omega)
 | n + 1, l, hd, h => by
  by_cases hm : n ∈ l
  ·have := nodup_lt n (l.erase n) (hd.erase n) fun x hx => by
    have h1 := h x (List.mem_of_mem_erase hx)
    have : x ≠ n := fun e => by subst e; exact (List.Nodup.not_mem_erase hd) hx
    omega
   rw [List.length_erase_of_mem hm] at this
   omega
  ·have := nodup_lt n l hd fun x hx => by
    have h1 := h x hx
    have : x ≠ n := fun e => hm (e ▸ hx)
    omega
   omega
/-- The names that were seen above a, a among them. -/
structure RSeen (cs : List PC) (i0 : Nat) (a : List UInt8) (l : List (List UInt8)) : Prop where
 nodup : l.Nodup
 mem : a ∈ l
 come : ∀ x ∈ l, x = a ∨ ∃ j, ix cs x = some j ∧ Abv cs i0 j
section
variable {cs : List PC} {i0 : Nat} {a b : List UInt8} {l : List (List UInt8)}
theorem RSeen.begin : RSeen cs i0 a [a] := ⟨by simp, by simp, fun x hx => .inl (List.mem_singleton.1 hx)⟩
theorem RSeen.known (h : RSeen cs i0 a l) (ha : ix cs a = some i0) {x : List UInt8} (hx : x ∈ l) : ∃ j, ix cs x = some j ∧ (j = i0 ∨ Abv cs i0 j) := by
 rcases h.come x hx with rfl | ⟨j, h1, h2⟩
 ·exact ⟨i0, ha, .inl rfl⟩
 ·exact ⟨j, h1, .inr h2⟩
theorem RSeen.few (h : RSeen cs i0 a l) (ha : ix cs a = some i0) : l.length ≤ cs.length := by
 have h1 : (l.map fun x => (ix cs x).getD 0).Nodup := by
  unfold List.Nodup at *
  rw [List.pairwise_map]
  refine List.Pairwise.imp_of_mem ?_ h.nodup
  intro x y hx hy hne e
  apply hne
  obtain ⟨i, hi, _⟩ := h.known ha hx
  obtain ⟨j, hj, _⟩ := h.known ha hy
  simp only [hi, hj, Option.getD_some] at e
  subst e
  obtain ⟨c, hc, e1⟩ := ix_some hi
  obtain ⟨d, hd, e2⟩ := ix_some hj
  rw [hc] at hd
  cases hd
  rw [← e1, ← e2]
 have := nodup_lt cs.length _ h1 fun x hx => by
  obtain ⟨y, hy, rfl⟩ := List.mem_map.1 hx
  obtain ⟨i, hi, _⟩ := h.known ha hy
  rw [hi]
  exact ix_lt hi
 simpa using this
/-- A name right above one that was seen is seen too, or found. -/
theorem RSeen.up (hL : Lkd cs) (h : RSeen cs i0 a l) (ha : ix cs a = some i0) {x u : List UInt8} {m : Nat} {c : PC} (hx : x ∈ l) (hm : ix cs x = some m) (hc : cs[m]? = some c) (hu : u ∈ upR c) : ∃ j, ix cs u = some j ∧ Abv cs i0 j := by
 obtain ⟨j, hj⟩ := hL.up m c hc u hu
 have hup : Up cs m j := (up_upR hL).2 ⟨c, u, hc, hu, hj⟩
 refine ⟨j, hj, ?_⟩
 obtain ⟨k, hk, h1⟩ := h.known ha hx
 rw [hm] at hk
 cases hk
 rcases h1 with rfl | h1
 ·exact .one hup
 ·exact h1.trans (.one hup)
theorem RSeen.snoc (hL : Lkd cs) (h : RSeen cs i0 a l) (ha : ix cs a = some i0) {x u : List UInt8} {m : Nat} {c : PC} (hx : x ∈ l) (hm : ix cs x = some m) (hc : cs[m]? = some c) (hu : u ∈ upR c) (hn : u ∉ l) : RSeen cs i0 a (l ++ [u]) := by
 refine ⟨?_, List.mem_append_left _ h.mem, fun y hy => ?_⟩
 ·rw [List.nodup_append]
  exact ⟨h.nodup, by simp, fun y hy z hz e => by obtain rfl := List.mem_singleton.1 hz; exact hn (e ▸ hy)⟩
 ·rcases List.mem_append.1 hy with hy | hy
  ·exact h.come y hy
  ·obtain rfl := List.mem_singleton.1 hy
   exact .inr (h.up hL ha hx hm hc hu)
/-- What stands above the first k that were seen is seen, and b isn't among it. -/
def RWent (cs : List PC) (b : List UInt8) (l : List (List UInt8)) (k : Nat) : Prop :=
 ∀ (i : Nat) (x : List UInt8) (m : Nat) (c : PC), i < k → l[i]? = some x → ix cs x = some m → cs[m]? = some c → ∀ u ∈ upR c, u ∈ l ∧ u ≠ b
theorem RWent.zero : RWent cs b l 0 := fun i _ _ _ h => by omega
theorem RWent.snoc {k : Nat} (h : RWent cs b l k) (hk : k ≤ l.length) (u : List UInt8) : RWent cs b (l ++ [u]) k := fun i x m c hi hx hm hc v hv => by
 rw [List.getElem?_append_left (by omega)] at hx
 have := h i x m c hi hx hm hc v hv
 exact ⟨List.mem_append_left _ this.1, this.2⟩
theorem RWent.next {k : Nat} (h : RWent cs b l k) {x : List UInt8} {m : Nat} {c : PC} (hx : l[k]? = some x) (hm : ix cs x = some m) (hc : cs[m]? = some c) (hu : ∀ u ∈ upR c, u ∈ l ∧ u ≠ b) : RWent cs b l (k + 1) := fun i y n d hi hy hn hd => by
 by_cases e : i = k
 ·subst e
  rw [hx] at hy
  cases hy
  rw [hm] at hn
  cases hn
  rw [hc] at hd
  cases hd
  exact hu
 ·exact h i y n d (by omega) hy hn hd
/-- All was seen: b isn't above a. -/
theorem RWent.not (hL : Lkd cs) (h : RSeen cs i0 a l) (ha : ix cs a = some i0) (hw : RWent cs b l l.length) {j : Nat} (hb : ix cs b = some j) : ¬ Abv cs i0 j := by
 have key : ∀ i k, Abv cs i k → ∀ x ∈ l, ix cs x = some i → ∀ nm, ix cs nm = some k → nm ≠ b := by
  intro i k hik
  induction hik with
  | @one i k hup =>
   intro x hx hxi nm hnm
   obtain ⟨c, u, hc, hu, huk⟩ := (up_upR hL).1 hup
   obtain ⟨n, hn⟩ := List.getElem?_of_mem hx
   have := hw n x i c (List.getElem?_eq_some_iff.1 hn).1 hn hxi hc u hu
   obtain ⟨c1, h1, e1⟩ := ix_some hnm
   obtain ⟨c2, h2, e2⟩ := ix_some huk
   rw [h1] at h2
   cases h2
   rw [← e1, e2]
   exact this.2
  | @more i m k hup _ ih =>
   intro x hx hxi nm hnm
   obtain ⟨c, u, hc, hu, huk⟩ := (up_upR hL).1 hup
   obtain ⟨n, hn⟩ := List.getElem?_of_mem hx
   have := hw n x i c (List.getElem?_eq_some_iff.1 hn).1 hn hxi hc u hu
   exact ih u this.1 huk nm hnm
 exact fun h1 => key i0 j h1 a h.mem ha b hb rfl
end
/-- The first class of a chain that stands in another's is the least above both. -/
theorem mt_first {cs : List PC} (G : Good cs) {i j : Nat} {l m : List Nat} (hl : Ch cs i l) (hm : Ch cs j m) {k x : Nat} (hx : l[k]? = some x) (hxm : x ∈ m) (hn : ∀ n y, n < k → l[n]? = some y → y ∉ m) : mt cs i j = x := by
 refine mt_eq G ⟨hl.sle.1 (List.mem_of_getElem? hx), hm.sle.1 hxm, fun y h1 h2 => ?_⟩
 obtain ⟨n, hny⟩ := List.getElem?_of_mem (hl.sle.2 h1)
 have hkn : k ≤ n := by
  apply Nat.not_lt.1
  intro hlt
  exact hn n y hlt hny (hm.sle.2 h2)
 clear hn hxm h1 h2
 induction hl generalizing k n with
 | @last i hs =>
  have := (List.getElem?_eq_some_iff.1 hx).1
  have := (List.getElem?_eq_some_iff.1 hny).1
  simp at *
  have e1 : k = 0 := by omega
  have e2 : n = 0 := by omega
  subst e1; subst e2
  simp at hx hny
  rw [← hx, ← hny]
  exact .refl
 | @next i j l hs hl ih =>
  cases k with
  | zero =>
   simp at hx
   subst hx
   exact (Ch.next hs hl).sle.1 (List.mem_of_getElem? hny)
  | succ k =>
   cases n with
   | zero => omega
   | succ n => exact ih hx n hny (by omega)
end Go.Proofs.YtmaknddlgppinaaGreatDoor
