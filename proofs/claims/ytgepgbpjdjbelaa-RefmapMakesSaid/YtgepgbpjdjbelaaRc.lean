/-
  WALK of packed: the bits of a map, eight in a byte.
-/
import Derived.Test.YtgepgbpjdjbelaaRb
import Derived.RangeFuncWrites
import Derived.Shelf.RegionOpen
set_option linter.unusedVariables false
set_option linter.unusedSimpArgs false
namespace Go.Proofs.Ytgepgbpjdjbelaa
open Go.RowKit

attribute [local go_sem] Oper.semAt_some
/-- Where the i-th bit of a map stands. -/
def adrF (s1 s2 : Option Addr) (n1 i : Nat) : Addr := if i < n1 then ⟨(s1.getD ⟨0, 0, none⟩).block, (s1.getD ⟨0, 0, none⟩).off + i, none⟩ else ⟨(s2.getD ⟨0, 0, none⟩).block, (s2.getD ⟨0, 0, none⟩).off + (i - n1), none⟩
theorem adr_1 {s1 s2 : Option Addr} {n1 i b o : Nat} (h : s1 = some ⟨b, o, none⟩) (hi : i < n1) : adrF s1 s2 n1 i = ⟨b, o + i, none⟩ := by
  unfold adrF
  rw [if_pos hi, h]
  rfl
theorem adr_2 {s1 s2 : Option Addr} {n1 i b o : Nat} (h : s2 = some ⟨b, o, none⟩) : adrF s1 s2 n1 (n1 + i) = ⟨b, o + i, none⟩ := by
  unfold adrF
  rw [if_neg (by omega), h, Nat.add_sub_cancel_left]
  rfl
theorem row_adr {B : Nat} {w : World} {s : Option Addr} {c i : Nat} {l : List Bool} (r : BRow B w (.slice s l.length c) l) (hi : i < l.length) : ∃ b o, s = some ⟨b, o, none⟩ ∧ b < B ∧ w.cell? ⟨b, o + i, none⟩ = some (.bool (bt l i)) := by
  obtain ⟨b, o, e, hb, hc⟩ := r.at_ (List.getElem?_eq_getElem hi)
  refine ⟨b, o, e, hb, ?_⟩
  rw [hc]
  unfold bt
  rw [List.getElem?_eq_getElem hi]
  rfl
theorem adr_cell {B : Nat} {w : World} {s1 s2 : Option Addr} {c1 c2 : Nat} {l1 l2 : List Bool} (r1 : BRow B w (.slice s1 l1.length c1) l1) (r2 : BRow B w (.slice s2 l2.length c2) l2) {i : Nat} (hi : i < l1.length + l2.length) :
    ∃ b o, adrF s1 s2 l1.length i = ⟨b, o, none⟩ ∧ b < B ∧ w.cell? ⟨b, o, none⟩ = some (.bool (bt (l1 ++ l2) i)) := by
  by_cases h : i < l1.length
  · obtain ⟨b, o, e, hb, hc⟩ := row_adr r1 h
    refine ⟨b, o + i, adr_1 e h, hb, ?_⟩
    rw [hc]
    unfold bt
    rw [List.getElem?_append_left h]
  · obtain ⟨j, rfl⟩ : ∃ j, i = l1.length + j := ⟨i - l1.length, by omega⟩
    obtain ⟨b, o, e, hb, hc⟩ := row_adr r2 (show j < l2.length by omega)
    refine ⟨b, o + j, adr_2 e, hb, ?_⟩
    rw [hc]
    unfold bt
    rw [List.getElem?_append_right (by omega), Nat.add_sub_cancel_left]
def ncells (l : List Nat) : List Value := l.map fun (n : Nat) => .int .u8 (n : Int)
theorem und59 : Try.prog.underlying 59 = some (.slice 5) := by kernel_rfl
theorem info5 : (Try.prog.info? 5).map (fun i => (i.zero, i.size, i.bytes)) = some (some (.int .u8 0), 1, 1) := by kernel_rfl
/-- A row of n empty cells, just laid. -/
theorem make_row (w : World) (t e : TypeId) (z : Value) (b n : Nat) (ht : Try.prog.underlying t = some (.slice e)) (hi : (Try.prog.info? e).map (fun i => (i.zero, i.size, i.bytes)) = some (some z, 1, b)) (hz : z.cells = #[z]) (hn : n ≤ 1000000) (hb : b ≤ 100) :
    ∃ w', (Instr.makeSlice t (.int .i64 (n : Int)) (.int .i64 (n : Int))).run Try.prog w = .ok (.slice (some ⟨w.heap.size, 0, none⟩) n n) w' ∧ w'.heap[w.heap.size]? = some (.cells (List.replicate n z).toArray e (0, 0)) ∧ Below w.heap.size w w' := by
  obtain ⟨i0, hi, hz0, hz1, hz2⟩ := info_parts hi
  obtain ⟨w', hr, hown, hg⟩ := run_make_full (P := Try.prog) w w.heap.size t e i0 z 1 ht hi hz0 hz1 .i64 .i64 n (by rw [hz2]; exact Nat.le_trans (Nat.mul_le_mul hb hn) (by decide)) (by unfold maxLen; omega) (Nat.le_refl _)
  rw [Nat.mul_one] at hown
  rcases hown.2 with ⟨h', _⟩ | ⟨g, cap, cur, h', _, hgg, _, _, hcs, htake⟩
  · simp at h'
  · simp only [Value.slice.injEq, Option.some.injEq, Addr.mk.injEq, and_true, true_and] at h'
    obtain ⟨rfl, rfl⟩ := h'
    have e1 : (madeCells z.cells n).toList = List.replicate n z := by rw [hz]; exact toList_madeCells_one _ _
    have e2 : cur.toList.take (n * 1) = List.replicate n z := by rw [htake]; exact e1
    have e3 : cur.toList = List.replicate n z := by rw [← e2, List.take_of_length_le (by rw [Array.length_toList, hcs]; exact Nat.le_refl _)]
    have e4 : cur = (List.replicate n z).toArray := by rw [← e3]
    exact ⟨w', hr, by rw [← e4]; exact hgg, (Below.refl _ _).grown hg (Nat.le_refl _) (fun k hk => by cases hk)⟩
set_option maxRecDepth 1000000 in
set_option maxHeartbeats 6400000 in
theorem packed_any (l1 l2 : List Bool) (s1 s2 : Option Addr) (c1 c2 B : Nat) (w : World) (r1 : BRow B w (.slice s1 l1.length c1) l1) (r2 : BRow B w (.slice s2 l2.length c2) l2) (hB : B ≤ w.heap.size) (h1 : l1.length ≤ 64) (h2 : l2.length ≤ 64) :
    Calls Try.prog 29 #[.agg #[.slice s1 l1.length c1, .slice s2 l2.length c2]] w fun e w' => ∃ v, e = .returned v ∧ OwnB w' w.heap.size v (packB (l1 ++ l2)) ∧ Below w.heap.size w w' := by
  have R1 := Lib.hid r1
  have R2 := Lib.hid r2
  obtain ⟨n1, hn1⟩ : ∃ n, l1.length = n := ⟨_, rfl⟩
  obtain ⟨n2, hn2⟩ : ∃ n, l2.length = n := ⟨_, rfl⟩
  have N1 := Lib.hid hn1
  have N2 := Lib.hid hn2
  rw [hn1] at h1 ⊢
  rw [hn2] at h2 ⊢
  have hsz : szB (n1 + n2) ≤ 16 := by unfold szB; omega
  clear r1 r2 hn1 hn2
  refine (callsIn_wide (n := 8)).1 ?_
  refine callsIn_of_wp_marks Try.func29 rfl trivial ?_ rfl
  simp only [Try.ntmps29, List.size_toArray, List.length_cons, List.length_nil, Nat.reduceAdd, Nat.reduceSub, Array.replicate_succ, Array.replicate_zero, List.push_toArray, List.append_toArray, List.nil_append, List.cons_append]
  have y0 := cells_of (heap_new w (.cells #[.slice s1 n1 c1, .slice s2 n2 c2] 27)) 0
  have y1 := cells_of (heap_new w (.cells #[.slice s1 n1 c1, .slice s2 n2 c2] 27)) 1
  simp only [List.getElem?_toArray, List.getElem?_cons_succ, List.getElem?_cons_zero] at y0 y1
  have BX := Lib.hid ((Below.refl _ w).alloc (Nat.le_refl _) (.cells #[.slice s1 n1 c1, .slice s2 n2 c2] 27))
  have Y0 := Lib.hid y0
  have Y1 := Lib.hid y1
  clear y0 y1
  gi_wp2_with fail
  refine ⟨trivial, ?_⟩
  ( refine (callsIn_wide.2 (size_any s1 s2 n1 n2 c1 c2 _ (by omega) (by omega))).mono ?_; rintro e w2 ⟨rfl, hb2⟩; have hz2 := hb2.size; rw [World.size_alloc] at hz2; have B2 := Lib.hid hb2; clear hb2; obtain ⟨w3, hmk, hcs, hb3⟩ := make_row w2 59 5 _ _ (szB (n1 + n2)) und59 info5 rfl (by omega) (by omega); have hz3 := hb3.size; have B3 := Lib.hid hb3; have x0 := keepc (Below.link' B2.out hb3) (Nat.lt_succ_self w.heap.size) (by simp) Y0.out; have x1 := keepc (Below.link' B2.out hb3) (Nat.lt_succ_self w.heap.size) (by simp) Y1.out; have hlt3 : w2.heap.size < w3.heap.size := lt_of_block hcs; have hlw : w.heap.size < w3.heap.size := (by omega); clear hb3)
  gi_wp2_with (refine ⟨trivial, ?_⟩; gi_at_call 31; refine (callsIn_wide.2 (bits_any _ _ _)).mono ?_; rintro e w4 ⟨rfl, rfl⟩)
  have HMK := Lib.hid hmk
  have X0 := Lib.hid x0
  have X1 := Lib.hid x1
  have B5 := Lib.hid (Below.link' BX.out (Below.link' B2.out B3.out))
  obtain ⟨bb, hbb⟩ : ∃ b, w2.heap.size = b := ⟨_, rfl⟩
  rw [hbb] at hcs hlt3 hz2 ⊢
  have hwb : w.heap.size < bb := by omega
  clear hmk x0 x1 BX B2 B3 Y0 Y1 HMK hbb hz3
  obtain ⟨bx, hbx⟩ : ∃ b, w3.heap.size = b := ⟨_, rfl⟩
  have hc1 := heap_new w3 (.cells #[.slice (some ⟨bb, 0, none⟩) (szB (n1 + n2)) (szB (n1 + n2))] 59)
  have hc2 := heap_new (w3.alloc (.cells #[.slice (some ⟨bb, 0, none⟩) (szB (n1 + n2)) (szB (n1 + n2))] 59)) (.cells #[.slice s1 n1 c1, .slice s2 n2 c2] 27)
  have hc3 := heap_alloc_lt (o := .cells #[.slice s1 n1 c1, .slice s2 n2 c2] 27) hc1
  have hc4 := heap_alloc_lt (o := .cells #[.slice s1 n1 c1, .slice s2 n2 c2] 27) (heap_alloc_lt (o := .cells #[.slice (some ⟨bb, 0, none⟩) (szB (n1 + n2)) (szB (n1 + n2))] 59) hcs)
  have hsz0 : ((w3.alloc (.cells #[.slice (some ⟨bb, 0, none⟩) (szB (n1 + n2)) (szB (n1 + n2))] 59)).alloc (.cells #[.slice s1 n1 c1, .slice s2 n2 c2] 27)).heap.size = bx + 2 := by simp; omega
  have B6 := Lib.hid ((B5.out.alloc (by omega) (.cells #[.slice (some ⟨bb, 0, none⟩) (szB (n1 + n2)) (szB (n1 + n2))] 59)).alloc (by simp; omega) (.cells #[.slice s1 n1 c1, .slice s2 n2 c2] 27))
  rw [World.size_alloc, hbx] at hc2
  rw [hbx] at hc3 hlt3 hlw ⊢
  clear hc1 hcs B5 X0 X1
  obtain ⟨W0, hW0⟩ : ∃ W, ((w3.alloc (.cells #[.slice (some ⟨bb, 0, none⟩) (szB (n1 + n2)) (szB (n1 + n2))] 59)).alloc (.cells #[.slice s1 n1 c1, .slice s2 n2 c2] 27)) = W := ⟨_, rfl⟩
  rw [hW0] at hc2 hc3 hc4 hsz0 B6 ⊢
  clear hW0 hbx w3
  have hq := hc2
  have m1 := cells_of hc2 0
  have m2 := cells_of hc2 1
  simp only [List.getElem?_toArray, List.getElem?_cons_succ, List.getElem?_cons_zero] at m1 m2
  refine wpIn_rangeFunc_ownG rfl (by omega) (gf := 40) (lb := #[.pointer (some ⟨bx + 1, 0, none⟩)]) rfl trivial (enters_of Try.func40 (by kernel_rfl) rfl)
    (iter_stops Fence.wide _ trivial rfl (by omega) (fun k => k = bb) (bx + 1) n1 n2 (n1 + n2) c1 c2 s1 s2 (adrF s1 s2 n1) W0 rfl (by omega) (fun k hk => by subst hk; omega) (by omega) m1 m2
      (fun i hi => by
        obtain ⟨b, o, e, _⟩ := row_adr R1.out (show i < l1.length by rw [N1.out]; exact hi)
        exact ⟨b, o, e, adr_1 e hi⟩)
      (fun i hi => by
        obtain ⟨b, o, e, _⟩ := row_adr R2.out (show i < l2.length by rw [N2.out]; exact hi)
        exact ⟨b, o, e, adr_2 e⟩))
    (fun h k => KpC.trans h k) kpC_b (Below.refl _ _) (fun _ => rfl)
    (fun pre W => W.heap[bb]? = some (.cells (ncells (putF (l1 ++ l2) (szB (n1 + n2)) pre)).toArray 5 (0, 0)) ∧ W.heap[bx]? = some (.cells #[.slice (some ⟨bb, 0, none⟩) (szB (n1 + n2)) (szB (n1 + n2))] 59 (0, 0)) ∧ Below w.heap.size w W)
    (fun _ _ _ => False)
    (fun s A C row hs hg hr => ⟨(hg.block _ (lt_of_block hs.1) (fun e => by have := (hr _ e.symm).1; omega)).trans hs.1, (hg.block _ (lt_of_block hs.2.1) (fun e => by have := (hr _ e.symm).1; omega)).trans hs.2.1, hs.2.2.grown hg (by have := hs.2.2.size; omega) (fun k e => by have := (hr k e).1; omega)⟩)
    (fun _ _ _ _ _ hs _ _ => hs)
    ⟨by simpa [putF, ncells] using hc4, hc3, B6.out⟩
    (fun x => { tmps := #[.agg #[.slice s1 n1 c1, .slice s2 n2 c2], .pointer (some ⟨w.heap.size, 0, none⟩), .slice none 0 0, .pointer (some ⟨bx, 0, none⟩), .int .i64 ((x.1 : Nat) : Int), .pointer (some (adrF s1 s2 n1 x.1)), .agg #[.slice s1 n1 c1, .slice s2 n2 c2], .int .i64 ((szB (n1 + n2) : Nat) : Int), .slice (some ⟨bb, 0, none⟩) (szB (n1 + n2)) (szB (n1 + n2)), .agg #[.slice s1 n1 c1, .slice s2 n2 c2], .func (.func 40) #[] #[.pointer (some ⟨bx + 1, 0, none⟩)], .int .i64 ((x.1 : Nat) : Int), .pointer (some (adrF s1 s2 n1 x.1)), undef, undef, undef, undef, undef, undef, undef, undef, undef, undef, undef, undef, undef], defers := [] }) ?assign ?body ?done ?stop
  case assign =>
    intro l x W K hK
    gi_wp2
    exact hK
  case body =>
    rintro l pre x W ⟨hs1, hs2, hB6⟩ _
    obtain ⟨b, o, ea, hbB, hc⟩ := adr_cell R1.out R2.out (i := x.1) (by rw [N1.out, N2.out]; exact x.2)
    rw [N1.out] at ea
    rw [ea]
    have hcW := (hB6.cell (p := ⟨b, o, none⟩) (by show b < _; omega)).trans hc
    have hm := x.2
    obtain ⟨m, hmx⟩ : ∃ m, x.1 = m := ⟨_, rfl⟩
    rw [hmx] at hcW hm ⊢
    have HS := Lib.hid (putF_snoc (l1 ++ l2) (szB (n1 + n2)) pre x)
    have HMX := Lib.hid hmx
    obtain ⟨hpl, hp256⟩ := putF_inv (l1 ++ l2) (szB (n1 + n2)) pre
    clear hc ea
    cases hbit : bt (l1 ++ l2) m with
    | false =>
      rw [hbit] at hcW
      have HBI := Lib.hid hbit
      have S1 := Lib.hid hs1
      have S2 := Lib.hid hs2
      have B7 := Lib.hid hB6
      clear hs1 hs2 hB6 hbit hpl hp256
      gi_wp2
      exact ⟨KeepsFrom.refl _ _, KpC.refl _ _, by rw [HS.out, HMX.out]; unfold putB; rw [HBI.out]; exact S1.out, S2.out, B7.out⟩
    | true =>
      rw [hbit] at hcW
      have HBI := Lib.hid hbit
      have hd : m / 8 < szB (n1 + n2) := by unfold szB; omega
      obtain ⟨v, hv⟩ : ∃ v, (putF (l1 ++ l2) (szB (n1 + n2)) pre)[m / 8]? = some v := ⟨_, List.getElem?_eq_getElem (by rw [hpl]; exact hd)⟩
      have hv256 := hp256 v (List.mem_of_getElem? hv)
      have HV := Lib.hid hv
      have HM := Lib.hid (fun (W : World) => mask_any m W (by omega))
      obtain ⟨k, hk⟩ : ∃ k, 2 ^ (7 - m % 8) = k := ⟨_, rfl⟩
      have hk256 : k < 256 := by rw [← hk]; exact Nat.pow_lt_pow_right (m := 7 - m % 8) (n := 8) (by omega) (by omega)
      rw [hk] at HM
      have HKK := Lib.hid hk
      have hor : bits BinOp.or IntKind.u8 (v : Int) (k : Int) = ((v ||| k : Nat) : Int) := u8_or_nat _ _ hv256 hk256
      have hq8 : Int.tdiv (m : Int) 8 = ((m / 8 : Nat) : Int) := by rw [Int.tdiv_eq_ediv_of_nonneg (by omega)]; omega
      have hq9 : (m : Int) / 8 = ((m / 8 : Nat) : Int) := by omega
      obtain ⟨d, hdd⟩ : ∃ d, m / 8 = d := ⟨_, rfl⟩
      rw [hdd] at hd hq8 hq9 HV
      have HDD := Lib.hid hdd
      have q0 := cells_of hs2 0
      have q1 := (cells_of hs1 d).trans (show (ncells (putF (l1 ++ l2) (szB (n1 + n2)) pre)).toArray[d]? = some (.int .u8 (v : Int)) by rw [List.getElem?_toArray]; unfold ncells; rw [List.getElem?_map, HV.out]; rfl)
      have q2 := free_of hs1 d
      simp only [List.getElem?_toArray, List.getElem?_cons_succ, List.getElem?_cons_zero] at q0
      have S1 := Lib.hid hs1
      have S2 := Lib.hid hs2
      have B7 := Lib.hid hB6
      have wd : IntKind.i64.wrap (d : Int) = (d : Int) := IntWalk.i64_in _ (by omega)
      have hdi : (d : Int) < ((szB (n1 + n2) : Nat) : Int) := by omega
      have hbW : bb < W.heap.size := lt_of_block hs1
      have FIN := Lib.hid (show KeepsFrom W0.heap.size W (W.drew.setCell ⟨bb, d, none⟩ (.int .u8 ((v ||| k : Nat) : Int))) ∧ KpC (fun k => k = bb) W (W.drew.setCell ⟨bb, d, none⟩ (.int .u8 ((v ||| k : Nat) : Int))) ∧
          (W.drew.setCell ⟨bb, d, none⟩ (.int .u8 ((v ||| k : Nat) : Int))).heap[bb]? = some (.cells (ncells (putF (l1 ++ l2) (szB (n1 + n2)) (pre ++ [x]))).toArray 5 (0, 0)) ∧ (W.drew.setCell ⟨bb, d, none⟩ (.int .u8 ((v ||| k : Nat) : Int))).heap[bx]? = some (.cells #[.slice (some ⟨bb, 0, none⟩) (szB (n1 + n2)) (szB (n1 + n2))] 59 (0, 0)) ∧ Below w.heap.size w (W.drew.setCell ⟨bb, d, none⟩ (.int .u8 ((v ||| k : Nat) : Int))) from by
        have s1 : W.drew.heap[bb]? = _ := hs1
        have s2 : W.drew.heap[bx]? = _ := hs2
        refine ⟨((KeepsOthers.drew W).trans (KeepsOthers.setCell _ _ _)).from _, fun i y hi hy _ => heap_set_ne (w := W.drew) hi hy, ?_, heap_set_ne (by show bx ≠ bb; omega) s2, hB6.drew.setCell (p := ⟨bb, d, none⟩) (by show _ ≤ bb; omega) _⟩
        rw [heap_set_eq s1 (by simp [ncells]; rw [hpl]; exact hd), HS.out, HMX.out]
        unfold putB
        rw [HBI.out, if_pos rfl, HDD.out, HV.out]
        unfold ncells
        simp [HKK.out])
      clear hs1 hs2 hB6 hbit hpl hp256 hv hk hdd
      have hmx : Try.prog.follows .mixedOrders = true := by kernel_rfl
      gi_wp2
      gi_region_with_o (refine ⟨trivial, ?_⟩; gi_at_call 32; refine (CallsIn.inRound l (callsIn_wide.2 (HM.out _))).mono ?_; rintro e w' ⟨rfl, rfl⟩)
      all_goals gi_wp2
      all_goals exact FIN.out
  case done =>
    rintro D ys W hD rfl ⟨hs1, hs2, hB6⟩ hK
    have q0 := cells_of hs2 0
    simp only [List.getElem?_toArray, List.getElem?_cons_succ, List.getElem?_cons_zero] at q0
    have S1 := Lib.hid hs1
    have B7 := Lib.hid hB6
    have HK := Lib.hid hK
    clear hs1 hs2 hB6 hK
    gi_wp2
    refine ⟨by simp, .inl ⟨_, _, rfl, run_takeDeferred HK.out, ?_⟩⟩
    have hnl : (l1 ++ l2).length = n1 + n2 := by rw [List.length_append, N1.out, N2.out]
    have hpl : (packB (l1 ++ l2)).length = szB (n1 + n2) := by rw [packB_len, hnl]
    have hpk := putF_all (l := l1 ++ l2) hnl
    refine ⟨_, results_tmp rfl _ _ _, _, rfl, ?_, ?_⟩
    · unfold OwnB
      rw [hpl]
      refine own_new (size := 1) ?_ (by omega) (by simp [ucells, hpl]) (by unfold maxLen; omega)
      rw [World.putObj_heap_other (by omega), S1.out, hpk]
      simp [ncells, ucells]
    · exact B7.out.grown (grownBy_putObj' _ _ _) (by have := B7.out.size; omega) (fun k e => by cases e; omega)
  case stop =>
    rintro D c pre W _ _ h _
    exact h.elim
end Go.Proofs.Ytgepgbpjdjbelaa
