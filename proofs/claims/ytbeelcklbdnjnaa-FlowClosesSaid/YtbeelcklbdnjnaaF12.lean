/-
  THE LAW FlowGrows.
-/
import Derived.Test.YtbeelcklbdnjnaaF11
import Derived.Deep.DeepCutAuto
set_option linter.unusedVariables false
set_option linter.unusedSimpArgs false
namespace Go.Proofs.Ytbeelcklbdnjnaa
open Go.RowKit

theorem hflat_len (hs : List Hd) : (hs.flatMap hcells).length = hs.length * 4 := by
  induction hs with
  | nil => rfl
  | cons h r ih => rw [List.flatMap_cons, List.length_append, ih, List.length_cons]; simp [hcells]; omega
theorem hflat_split (hs : List Hd) (k : Nat) (hk : k ≤ hs.length) : (hs.take k).flatMap hcells = (hs.flatMap hcells).take (k * 4) ∧ (hs.drop k).flatMap hcells = (hs.flatMap hcells).drop (k * 4) := by
  have h1 : ((hs.take k).flatMap hcells).length = k * 4 := by rw [hflat_len, List.length_take]; omega
  have h2 : hs.flatMap hcells = (hs.take k).flatMap hcells ++ (hs.drop k).flatMap hcells := by rw [← List.flatMap_append, List.take_append_drop]
  constructor
  · rw [h2, List.take_left' h1]
  · rw [h2, List.drop_left' h1]
theorem hflat_one (hs : List Hd) : ∀ u ∈ hs.flatMap hcells, u.oneCell' = true := by
  intro u hu
  obtain ⟨h, _, hh⟩ := List.mem_flatMap.1 hu
  simp [hcells] at hh
  rcases hh with rfl | rfl | rfl | rfl <;> rfl
theorem pick_addrH (hb ho c k g : Nat) (hc : g + 1 ≤ c) : ∃ AD : Addr, (if c = k + 1 then some ({ block := hb, off := ho } : Addr) else some { block := hb, off := ho + (k + 1) * 4 }) = some AD ∧ (AD = ⟨hb, ho + (k + 1) * 4, none⟩ ∨ g ≤ k) := by
  by_cases h : c = k + 1
  · exact ⟨_, by rw [if_pos h], .inr (by omega)⟩
  · exact ⟨_, by rw [if_neg h], .inl rfl⟩
theorem newsH_take {w : World} {hb ho k : Nat} {hs : List Hd} {o : Obj} (hk : k ≤ hs.length) (h : hb < w.heap.size ∧ ∀ j u, (hs.flatMap hcells)[j]? = some u → w.cell? ⟨hb, ho + j, none⟩ = some u) :
    ∀ j u, ((hs.take k).flatMap hcells)[j]? = some u → (w.alloc o).drew.cell? (({ block := hb, off := ho } : Addr).add j) = some u := by
  intro j u hu
  rw [(hflat_split hs k hk).1, List.getElem?_take] at hu
  rw [plain_add]
  split at hu
  · show (w.alloc o).cell? _ = _
    rw [World.cell?_alloc_lt w o _ h.1]
    exact h.2 j u hu
  · cases hu
theorem newsH_any {w w3 : World} {hb ho k g : Nat} {hs : List Hd} {o : Obj} {AD : Addr} (hA : AD = ⟨hb, ho + (k + 1) * 4, none⟩ ∨ g ≤ k) (hk : k + 1 ≤ hs.length) (h : hb < w.heap.size ∧ ∀ j u, (hs.flatMap hcells)[j]? = some u → w.cell? ⟨hb, ho + j, none⟩ = some u)
    (hg : (w.alloc o).drew.grownBy w3 (some w.heap.size)) (hl : ((hs.drop (k + 1)).flatMap hcells).length = (g - k) * 4) :
    ∀ j u, ((hs.drop (k + 1)).flatMap hcells)[j]? = some u → w3.cell? (AD.add j) = some u := by
  intro j u hu
  rcases hA with rfl | hA
  · rw [(hflat_split hs (k + 1) hk).2, List.getElem?_drop] at hu
    rw [plain_add]
    have h1 := h.2 _ _ hu
    have h2 : w3.heap[hb]? = (w.alloc o).heap[hb]? := hg.block hb (by show hb < (w.alloc o).heap.size; simp; have := h.1; omega) (by intro e; injection e with e; have := h.1; omega)
    rw [Below.heap_alloc _ _ _ h.1] at h2
    rw [show ho + (k + 1) * 4 + j = ho + ((k + 1) * 4 + j) by omega, ← h1]
    exact World.cell?_of_block (w := w) h2
  · have : ((hs.drop (k + 1)).flatMap hcells) = [] := List.eq_nil_of_length_eq_zero (by rw [hl]; omega)
    rw [this] at hu
    simp at hu
theorem two_grown {w w3 w4 : World} {o : Obj} {v3 : Value} (h1 : (w.alloc o).drew.grownBy w3 (some w.heap.size)) (h2 : w3.grownBy w4 v3.ownBlock) (h3 : ∀ k, v3.ownBlock = some k → w.heap.size ≤ k) : Below w.heap.size w w4 :=
  ((((Below.refl _ w).alloc (Nat.le_refl _) o).drew).grown h1 (by show w.heap.size ≤ (w.alloc o).heap.size; simp) (fun k hk => by injection hk with hk; omega)).grown h2 (by
    have := h1.size
    have e : (w.alloc o).drew.heap.size = w.heap.size + 1 := by show (w.alloc o).heap.size = _; simp
    omega) h3
/-- One handler less. -/
def lessH (hs : List Hd) (k : Nat) : List Hd := hs.take k ++ hs.drop (k + 1)
theorem less_in {hs : List Hd} {k m : Nat} {h : Hd} (hk : k < hs.length) (hm : (lessH hs k)[m]? = some h) : ∃ m' : Nat, hs[m']? = some h := by
  have : h ∈ lessH hs k := List.mem_of_getElem? hm
  rcases List.mem_append.1 this with h1 | h1
  · exact List.mem_iff_getElem?.1 (List.mem_of_mem_take h1)
  · exact List.mem_iff_getElem?.1 (List.mem_of_mem_drop h1)
theorem less_cov {l : List In} {n : Int} {hs : List Hd} {k : Nat} (h : covE l n hs = 0) : covE l n (lessH hs k) = 0 := by
  have hall : hs.all (okH l n) = true := by
    unfold covE at h
    split at h
    · assumption
    · cases h
  unfold covE
  rw [if_pos]
  rw [List.all_eq_true] at hall ⊢
  intro x hx
  rcases List.mem_append.1 hx with h1 | h1
  · exact hall x (List.mem_of_mem_take h1)
  · exact hall x (List.mem_of_mem_drop h1)
theorem less_nxt {l : List In} {hs : List Hd} {k i : Nat} (hk : k < hs.length) {j : Int} (hj : j ∈ nxtP l (lessH hs k) i) : j ∈ nxtP l hs i := by
  by_cases hi : i < l.length
  · have hx := List.getElem?_eq_getElem hi
    generalize l[i] = x at hx
    rw [nxtP_eq hx] at hj ⊢
    rcases List.mem_append.1 hj with h | h
    · exact List.mem_append.2 (.inl h)
    · obtain ⟨a, ha, rfl⟩ := List.mem_map.1 h
      obtain ⟨m, hd, hm, rfl, hc⟩ := mem_covP.1 ha
      obtain ⟨m', hm'⟩ := less_in hk hm
      refine List.mem_append.2 (.inr (List.mem_map.2 ⟨(m' : Int), mem_covP.2 ⟨m', hd, hm', rfl, hc⟩, ?_⟩))
      have e1 : (staL l hs)[m']? = some (idxP l hd.at_) := by simp [staL, hm']
      have e2 : (staL l (lessH hs k))[m]? = some (idxP l hd.at_) := by simp [staL, hm]
      rw [Int.toNat_natCast, Int.toNat_natCast, getD_of e1, getD_of e2]
  · rw [nxtP_out (by omega)] at hj
    cases hj
theorem mk48 : (Try.prog.info? 48).map (fun i => (i.zero, i.size, i.bytes)) = some (some (.agg #[.int .i64 0, .int .i64 0, .int .i64 0, .int .i64 0]), 4, 32) := by kernel_rfl
set_option maxRecDepth 1000000 in
set_option maxHeartbeats 6400000 in
theorem grows_walk (s : ByteArray) (hs : List Hd) (hv : Value) (z : Int) (w : World) (hh : HRow w.heap.size w hv hs) (hok : Hok hs) (hz1 : i64 z) :
    Calls Try.prog 5 #[.string s, hv, .int .i64 z] w fun e w' => e = .returned (.bool true) ∧ Below w.heap.size w w' := by
  obtain ⟨A2, c2, rfl, hc2, hml2⟩ := hh.form
  have HH := Lib.hid hh
  have HW := Lib.hid hok
  unfold maxLen at hml2
  unfold i64 at hz1
  clear hh hok
  have HDR := fun W => Lib.hid (refDecode_any s W)
  have HORD := Lib.hid (@ord_of (L s))
  have HSZ := Lib.hid (size_L s)
  obtain ⟨f, hf⟩ : ∃ f, decE (L s) = f := ⟨_, rfl⟩
  obtain ⟨l, hl⟩ : ∃ l, decL (L s) = l := ⟨_, rfl⟩
  rw [hf, hl] at HDR
  rw [hf, hl, ← HSZ.out] at HORD
  clear hf hl HSZ
  go_enter Try.func5, Try.ntmps5
  go_wp2_with fail
  refine (shown_any _).mono ?_
  rintro e w1 ⟨rfl, hb⟩
  have B1 := Lib.hid hb
  clear hb
  go_wp2_with fail
  refine (HDR _).out.mono ?_
  rintro e w2 ⟨v, rfl, ho, hb⟩
  have hz2 := hb.size
  have B2 := Lib.hid (Below.link B1.out hb)
  have R2 := Lib.hid ho.row
  have H2 := Lib.hid (HH.out.below B2.out (Nat.le_refl _))
  have hzw := B2.out.size
  obtain ⟨A, c, rfl⟩ := ho.form
  clear ho hb HDR
  by_cases h0 : f = 0
  · subst h0
    obtain ⟨ho1, ho2, ho3⟩ := HORD.out rfl
    have HO := Lib.hid ho1
    have hl0 : 0 < l.length := List.length_pos_iff.2 ho1.ne
    clear HORD ho1
    by_cases h6 : l.length ≤ 600
    · by_cases h4 : hs.length ≤ 40
      · by_cases hg0 : hs.length = 0
        · rw [hg0]
          go_wp2
          go_ret
          exact ⟨rfl, B2.out⟩
        · obtain ⟨g, hg⟩ : ∃ g, hs.length = g + 1 := ⟨hs.length - 1, by omega⟩
          have HG := Lib.hid hg
          rw [hg] at hc2 h4 hml2 HH H2 ⊢
          have eb : ((g : Int) + 1 == 0) = false := by simp; omega
          clear hg0 hg hml2
          have hr1 := Int.lt_tmod_of_pos z (show (0 : Int) < (g : Int) + 1 by omega)
          have hr2 := Int.tmod_lt_of_pos z (show (0 : Int) < (g : Int) + 1 by omega)
          go_upto_if 48 with fail
          obtain ⟨r, hr⟩ : ∃ r, z.tmod ((g : Int) + 1) = r := ⟨_, rfl⟩
          rw [hr] at hr1 hr2 ⊢
          clear hr
          go_cut [10] (fun a wx => ∃ k : Nat, k ≤ g ∧ a = .int .i64 k ∧ wx = w2)
          case first =>
            by_cases hn : r < 0
            · go_wp2
              go_meet
              case rel => exact ⟨(-r).toNat, by omega, by congr 1; omega, rfl⟩
            · have hn2 : 0 ≤ r := by omega
              clear hn
              go_wp2
              go_meet
              case rel => exact ⟨r.toNat, by omega, by congr 1; omega, rfl⟩
          case rest =>
            obtain ⟨k, hkg, rfl, rfl⟩ := hcut
            clear hr1 hr2 hz1 eb
            obtain ⟨i0, hi0, hz0, hz11, hz22⟩ := info_parts mk48
            have hhr := H2.out
            obtain ⟨A', cap', e5, hcl, hml3, hrd⟩ := hhr
            rw [HG.out] at e5 hcl hml3
            injection e5 with e6 _ e7
            subst e6 e7
            obtain ⟨hb, ho5, rfl, hbl, hcell⟩ := hrd.2 (by rw [HG.out]; omega)
            have HCC := Lib.hid (show hb < wc.heap.size ∧ ∀ j u, (hs.flatMap hcells)[j]? = some u → wc.cell? ⟨hb, ho5 + j, none⟩ = some u from ⟨by omega, hcell⟩)
            have hk3 : ((k : Int) + 1).toNat = k + 1 := by omega
            have hk4 : IntKind.i64.wrap ((k : Int) + 1) = (k : Int) + 1 := IntWalk.i64_in _ (by omega)
            have hk2 : k + 1 ≤ c2 := by omega
            have hk5 : k + 1 ≤ g + 1 := by omega
            have hk7 : k ≤ g + 1 := by omega
            have hk8 : (0 : Int) ≤ (k : Int) + 1 := by omega
            have hk9 : (k : Int) + 1 ≤ (g : Int) + 1 := by omega
            have hka : k ≤ c2 := by omega
            have HO1 := Lib.hid (own_new (e := 48) (size := 4) (n := 0) (base := wc.heap.size) (cs := []) (heap_new wc (.cells #[] 48)) (Nat.le_refl _) rfl (by decide))
            have HTK := Lib.hid (show ((hs.take k).flatMap hcells).length = k * 4 by rw [hflat_len, List.length_take, HG.out]; omega)
            have HDR := Lib.hid (show ((hs.drop (k + 1)).flatMap hcells).length = (g - k) * 4 by rw [hflat_len, List.length_drop, HG.out]; omega)
            have HKH := Lib.hid (show k ≤ hs.length by rw [HG.out]; omega)
            have HKH1 := Lib.hid (show k + 1 ≤ hs.length by rw [HG.out]; omega)
            obtain ⟨AD, hif, had⟩ := pick_addrH hb ho5 c2 k g (by omega)
            have HAD := Lib.hid had
            clear had hrd hcell hml3 hcl
            go_wp2_with fail
            go_region_law (first | (refine step_append_own2 rfl (.tmp 51) (.tmp 54) 22 rfl wc.heap.size 48 i0 (.agg #[.int .i64 0, .int .i64 0, .int .i64 0, .int .i64 0]) 4 32 Try.underlying22 hi0 hz0 hz11 hz22 rfl (by decide) (.slice (some ⟨wc.heap.size, 0, none⟩) 0 0) 0 [] rfl HO1.out ⟨hb, ho5, none⟩ k c2 ((hs.take k).flatMap hcells) rfl HTK.out (newsH_take (o := .cells #[] 48) HKH.out HCC.out) (hflat_one _) (by unfold maxLen; omega) (by omega) (by simp) ?_; intro v3 w3 own3 hg3 hm3) | (refine step_append_own2 rfl (.tmp 55) (.tmp 59) 22 rfl wc.heap.size 48 i0 (.agg #[.int .i64 0, .int .i64 0, .int .i64 0, .int .i64 0]) 4 32 Try.underlying22 hi0 hz0 hz11 hz22 rfl (by decide) v3 (0 + k) _ rfl own3 AD (g - k) (c2 - (k + 1)) ((hs.drop (k + 1)).flatMap hcells) (by simp [Act.eval, Act.put]) HDR.out (newsH_any (o := .cells #[] 48) HAD.out HKH1.out HCC.out hg3 HDR.out) (hflat_one _) (by unfold maxLen; omega) (by omega) (by have := hg3.size; simp at this; omega) ?_; intro v4 w4 own4 hg4 hm4))
            have hfl : (lessH hs k).flatMap hcells = (hs.take k).flatMap hcells ++ (hs.drop (k + 1)).flatMap hcells := by unfold lessH; rw [List.flatMap_append]
            have hll : (lessH hs k).length = g := by unfold lessH; rw [List.length_append, List.length_take, List.length_drop, HG.out]; omega
            have HL4 := Lib.hid (show HRow w4.heap.size w4 v4 (lessH hs k) by
              have h1 := Row.of_own own4
              rw [List.nil_append, ← hfl, show 0 + k + (g - k) = (lessH hs k).length by rw [hll]; omega] at h1
              exact h1)
            have BG := two_grown hg3 hg4 (own_block_ge own3)
            have B4 := Lib.hid (Below.link B2.out BG)
            have R4 := Lib.hid (R2.out.below BG (Nat.le_refl _))
            have H4 := Lib.hid (H2.out.below BG (by omega))
            have hz4 := BG.size
            have HLL := Lib.hid hll
            have hkl : k < hs.length := by rw [HG.out]; omega
            have HKL := Lib.hid hkl
            have HWL := Lib.hid (show Hok (lessH hs k) from fun h hh => by
              rcases List.mem_append.1 hh with h1 | h1
              · exact HW.out h (List.mem_of_mem_take h1)
              · exact HW.out h (List.mem_of_mem_drop h1))
            obtain ⟨a4, c4, rfl⟩ := own_form own4
            have e8 : 0 + k + (g - k) = g := by omega
            rw [e8] at HL4 ⊢
            clear own3 own4 hg3 hg4 hm3 hm4 BG hfl hll hkl e8 HCC HO1 HTK HDR HAD hif hk2 hk3 hk4 hk5 hk7 hk8 hk9 hka hi0 hz0 hz11 hz22
            have HRE := Lib.hid (reach_any w4.heap.size s.size l hs _ _ w4 (R4.out.more (by omega)) (H4.out.more (by omega)) (Nat.le_refl _) HO.out (by omega) (by omega) (by rw [HG.out]; omega) HW.out)
            obtain ⟨cf, hcf⟩ : ∃ x, covE l s.size hs = x := ⟨_, rfl⟩
            rw [hcf] at HRE
            have HCF := Lib.hid hcf
            clear hcf
            go_wp2_with fail
            refine HRE.out.mono ?_
            rintro e w5 ⟨u5, rb5, rfl, hrow5, hre5, hb5⟩
            have hz5 := hb5.size
            have HRE5 := Lib.hid hre5
            obtain ⟨ar, cr, rfl⟩ := own_form hrow5
            have RB5 := Lib.hid (show BRow w5.heap.size w5 _ rb5 from Row.of_own hrow5)
            have B5 := Lib.hid (Below.link B4.out hb5)
            have R5 := Lib.hid (R4.out.below hb5 (by omega))
            have HL5 := Lib.hid (HL4.out.below hb5 (Nat.le_refl _))
            clear hrow5 hre5 hb5 HRE
            have HRE := Lib.hid (reach_any w5.heap.size s.size l (lessH hs k) _ _ w5 (R5.out.more (by omega)) (HL5.out.more (by omega)) (Nat.le_refl _) HO.out (by omega) (by omega) (by rw [HLL.out]; omega) HWL.out)
            obtain ⟨cl, hcl⟩ : ∃ x, covE l s.size (lessH hs k) = x := ⟨_, rfl⟩
            rw [hcl] at HRE
            have HCL := Lib.hid hcl
            clear hcl
            go_wp2_with fail
            refine HRE.out.mono ?_
            rintro e w6 ⟨u6, rb6, rfl, hrow6, hre6, hb6⟩
            have hz6 := hb6.size
            have HRE6 := Lib.hid hre6
            obtain ⟨ar6, cr6, rfl⟩ := own_form hrow6
            have RB6 := Lib.hid (show BRow w6.heap.size w6 _ rb6 from Row.of_own hrow6)
            have B6 := Lib.hid (Below.link B5.out hb6)
            have RB56 := Lib.hid (RB5.out.below hb6 (Nat.le_refl _))
            clear hrow6 hre6 hb6 HRE
            by_cases hc0 : cf = 0
            · subst hc0
              have hcl0 : cl = 0 := by rw [← HCL.out]; exact less_cov HCF.out
              subst hcl0
              have HI5 := Lib.hid (HRE5.out.1 HCF.out)
              have HI6 := Lib.hid (HRE6.out.1 HCL.out)
              have hl5 := HI5.out.1
              have hl6 := HI6.out.1
              rw [hl5] at RB56 ⊢
              rw [hl6] at RB6 ⊢
              clear hl5 hl6
              go_wp2
              go_loopw [16] (fun i wx => ∃ k2 : Nat, k2 ≤ l.length ∧ i = .int .i64 k2 ∧ wx = w6) (fun i _ => l.length - (intOf i).toNat)
              case atStart => exact ⟨0, Nat.zero_le _, rfl, rfl⟩
              case round =>
                obtain ⟨k2, hk2, rfl, rfl⟩ := hrel
                by_cases hlt : k2 < l.length
                · have h5 := List.getElem?_eq_getElem (show k2 < rb5.length by rw [HI5.out.1]; exact hlt)
                  have h6b := List.getElem?_eq_getElem (show k2 < rb6.length by rw [HI6.out.1]; exact hlt)
                  generalize rb5[k2]'_ = x5 at h5
                  generalize rb6[k2]'_ = x6 at h6b
                  have himp : x6 = true → x5 = true := fun e => by
                    subst e
                    have r := (HI6.out.2 k2 hlt).1 h6b
                    have := (HI5.out.2 k2 hlt).2 (r.mono fun i j hj => less_nxt HKL.out hj)
                    rw [h5] at this
                    exact Option.some.inj this
                  obtain ⟨b5, o5, rfl, hb5, cc5⟩ := RB56.out.at_ h5
                  obtain ⟨b6, o6, rfl, hb6, cc6⟩ := RB6.out.at_ h6b
                  have HIM := Lib.hid himp
                  clear h5 h6b himp
                  cases x6 with
                  | false =>
                    go_wp2
                    go_roundw
                    case rel => exact ⟨k2 + 1, by omega, by go_num, by first | rfl | trivial⟩
                    case measure => simp [intOf]; omega
                  | true =>
                    obtain rfl := HIM.out rfl
                    go_wp2
                    go_roundw
                    case rel => exact ⟨k2 + 1, by omega, by go_num, by first | rfl | trivial⟩
                    case measure => simp [intOf]; omega
                · go_wp2
                  go_ret
                  exact ⟨rfl, B6.out⟩
            · have e1 : (cf != 0) = true := by simpa using hc0
              clear hc0
              go_wp2
              go_ret
              exact ⟨rfl, B6.out⟩
      · have h7 : 40 < hs.length := by omega
        clear h4
        go_wp2
        go_ret
        exact ⟨rfl, B2.out⟩
    · have h7 : 600 < l.length := by omega
      clear h6
      go_wp2
      go_ret
      exact ⟨rfl, B2.out⟩
  · have e1 : (f != 0) = true := by simpa using h0
    clear h0 HORD
    go_wp2
    go_ret
    exact ⟨rfl, B2.out⟩
end Go.Proofs.Ytbeelcklbdnjnaa
