/-
  WALK: Cover.
-/
import Derived.Test.YtbeelcklbdnjnaaF5
import Derived.Deep.QuietTactic
import Derived.Deep.RegionLaw
import Derived.Deep.LoopGhost
import Derived.Deep.DeepCutAuto
set_option linter.unusedVariables false
set_option linter.unusedSimpArgs false
namespace Go.Proofs.Ytbeelcklbdnjnaa
open Go.RowKit

/-- The rows while the k-th handler is put behind those from f to i. -/
def covM (l : List In) (hs : List Hd) (k f i : Nat) : List (List Int) := l.mapIdx fun j x => if f ≤ j ∧ j < i then covN hs x.pc k ++ [(k : Int)] else covN hs x.pc k
theorem covM_len (l : List In) (hs : List Hd) (k f i : Nat) : (covM l hs k f i).length = l.length := by simp [covM]
theorem covM_at {l : List In} {hs : List Hd} {k f i j : Nat} {x : In} (hx : l[j]? = some x) : (covM l hs k f i)[j]? = some (if f ≤ j ∧ j < i then covN hs x.pc k ++ [(k : Int)] else covN hs x.pc k) := by simp [covM, List.getElem?_mapIdx, hx]
theorem covM_step {l : List In} {hs : List Hd} {k f i : Nat} {x : In} (hx : l[i]? = some x) (hf : f ≤ i) : (covM l hs k f i).set i (covN hs x.pc k ++ [(k : Int)]) = covM l hs k f (i + 1) := by
  apply List.ext_getElem?
  intro j
  by_cases e : i = j
  · subst e
    rw [List.getElem?_set_self (by rw [covM_len]; exact (List.getElem?_eq_some_iff.1 hx).1), covM_at hx, if_pos ⟨hf, by omega⟩]
  · rw [List.getElem?_set_ne e]
    rcases h : l[j]? with _ | y
    · rw [List.getElem?_eq_none (by rw [covM_len]; exact List.getElem?_eq_none_iff.1 h), List.getElem?_eq_none (by rw [covM_len]; exact List.getElem?_eq_none_iff.1 h)]
    · rw [covM_at h, covM_at h]
      congr 1
      have : (f ≤ j ∧ j < i) ↔ (f ≤ j ∧ j < i + 1) := by omega
      simp only [this]
theorem covM_none (l : List In) (hs : List Hd) (k f i : Nat) (h : i ≤ f) : covM l hs k f i = l.map fun x => covN hs x.pc k := by
  apply List.ext_getElem?
  intro j
  rcases h2 : l[j]? with _ | y
  · rw [List.getElem?_eq_none (by rw [covM_len]; exact List.getElem?_eq_none_iff.1 h2)]
    simp [h2]
  · rw [covM_at h2, if_neg (by omega)]
    simp [h2]
theorem covM_done {l : List In} {hs : List Hd} {k f i : Nat} {h : Hd} (hk : hs[k]? = some h) (hi : ∀ (j : Nat) (x : In), l[j]? = some x → ((f ≤ j ∧ j < i) ↔ (h.frm ≤ x.pc ∧ x.pc < h.to))) : covM l hs k f i = l.map fun x => covN hs x.pc (k + 1) := by
  apply List.ext_getElem?
  intro j
  rcases h2 : l[j]? with _ | y
  · rw [List.getElem?_eq_none (by rw [covM_len]; exact List.getElem?_eq_none_iff.1 h2)]
    simp [h2]
  · rw [covM_at h2]
    simp only [List.getElem?_map, h2, Option.map_some, covN, getD_of hk, hi j y h2]
    split <;> simp
theorem Ord.le_iff {n : Nat} {l : List In} (ho : Ord n l) {i j : Nat} {x y : In} (hi : l[i]? = some x) (hj : l[j]? = some y) : x.pc ≤ y.pc ↔ i ≤ j := by
  rcases Nat.lt_trichotomy i j with h | h | h
  · have := ho.lt i j x y h hi hj; omega
  · subst h; rw [hi] at hj; cases hj; omega
  · have := ho.lt j i y x h hj hi; omega
theorem cov_iff {n : Nat} {l : List In} (ho : Ord n l) {h : Hd} {f t : Nat} (hf : idxP l h.frm = (f : Nat)) (ht : (h.to = (n : Int) ∧ t = l.length) ∨ idxP l h.to = (t : Nat)) (j : Nat) (x : In) (hx : l[j]? = some x) : (f ≤ j ∧ j < t) ↔ (h.frm ≤ x.pc ∧ x.pc < h.to) := by
  obtain ⟨f', y, hy, hyp, e⟩ := idx_found (l := l) (pc := h.frm) (by omega)
  have : f' = f := by omega
  subst this
  have h1 := ho.le_iff hy hx
  rw [hyp] at h1
  have hj := (List.getElem?_eq_some_iff.1 hx).1
  have h2 : j < t ↔ x.pc < h.to := by
    rcases ht with ⟨e1, e2⟩ | e1
    · have := ho.hi x (List.mem_of_getElem? hx)
      omega
    · obtain ⟨t', z, hz, hzp, e⟩ := idx_found (l := l) (pc := h.to) (by omega)
      have : t' = t := by omega
      subst this
      have h3 := ho.le_iff hz hx
      rw [hzp] at h3
      omega
  rw [h1, h2]
theorem PMapN.drewN {mb k : Nat} {l : List In} {w : World} (h : PMapN mb k l w) (j : Nat) : PMapN mb k l (w.drewN j) := h.stay rfl
theorem covE_bad {l : List In} {n : Int} {hs : List Hd} {h : Hd} {k : Nat} (hk : hs[k]? = some h) (hb : okH l n h = false) : covE l n hs = 12 := by
  unfold covE
  rw [if_neg]
  intro e
  rw [List.all_eq_true] at e
  rw [e h (List.mem_of_getElem? hk)] at hb
  cases hb
theorem covE_ok {l : List In} {n : Int} {hs : List Hd} (h : ∀ (k : Nat) (x : Hd), hs[k]? = some x → okH l n x = true) : covE l n hs = 0 := by
  unfold covE
  rw [if_pos]
  rw [List.all_eq_true]
  intro x hx
  obtain ⟨k, hk⟩ := List.mem_iff_getElem?.1 hx
  exact h k x hk
theorem len_covN (hs : List Hd) (pc : Int) : ∀ k, (covN hs pc k).length ≤ k
  | 0 => by simp [covN]
  | k + 1 => by
    rw [covN, List.length_append]
    have := len_covN hs pc k
    split <;> simp <;> omega
theorem okH_eq {l : List In} {n : Nat} {x : Hd} {T : Int} (hT : T = if x.to = (n : Int) then (l.length : Int) else idxP l x.to) : okH l n x = (decide (idxP l x.frm ≠ -1) && decide (T ≠ -1) && decide (idxP l x.at_ ≠ -1)) := by
  have b1 := idx_lt l x.frm
  have b2 := idx_lt l x.to
  have b3 := idx_lt l x.at_
  have q1 : decide (0 ≤ idxP l x.frm) = decide (idxP l x.frm ≠ -1) := by rw [decide_eq_decide]; omega
  have q2 : decide (0 ≤ idxP l x.at_) = decide (idxP l x.at_ ≠ -1) := by rw [decide_eq_decide]; omega
  have q3 : (x.to == (n : Int) || decide (0 ≤ idxP l x.to)) = decide (T ≠ -1) := by
    subst hT
    by_cases h : x.to = (n : Int)
    · rw [if_pos h]
      simp [h]
      try omega
    · have : (x.to == (n : Int)) = false := by simpa using h
      rw [if_neg h, this, Bool.false_or, decide_eq_decide]
      omega
  unfold okH
  rw [q1, q2, q3]
  cases decide (idxP l x.frm ≠ -1) <;> cases decide (T ≠ -1) <;> cases decide (idxP l x.at_ ≠ -1) <;> rfl
def covA (l : List In) (n : Int) (hs : List Hd) : List (List Int) := if covE l n hs = 0 then covL l hs else []
set_option maxRecDepth 1000000 in
set_option maxHeartbeats 6400000 in
theorem cover_any (B n : Nat) (l : List In) (hs : List Hd) (v hv : Value) (w : World) (hr : NRow B w v l) (hh : HRow B w hv hs) (hB : B ≤ w.heap.size) (ho : Ord n l) (hn : n ≤ 1000000) (hl : l.length ≤ 1000000) (hm : hs.length ≤ 1000000) (hw : Hok hs) :
    Calls Try.prog 13 #[v, .int .i64 n, hv] w fun e w' => ∃ u, e = .returned (.tuple #[u, .int .i64 (covE l n hs)]) ∧ LOwn w' w.heap.size u (covA l n hs) ∧ Below w.heap.size w w' := by
  obtain ⟨A, c, rfl, hc, hml⟩ := hr.form
  obtain ⟨A2, c2, rfl, hc2, hml2⟩ := hh.form
  have HPL := Lib.hid (places_any B n l _ w hr hB ho hn)
  have HH := Lib.hid hh
  have HO := Lib.hid ho
  have HW := Lib.hid hw
  unfold maxLen at hml hml2
  clear hr ho hh hw
  go_enter Try.func13, Try.ntmps13
  go_wp2_with fail
  refine HPL.out.mono ?_
  rintro e w1 ⟨mb, rfl, hmb, hp1, hb1⟩
  have hsz1 := hb1.size
  have hml1 := hp1.lt
  obtain ⟨w2, hmk, hrow, hb2⟩ := make_row w1 29 34 (.slice none 0 0) 24 l.length (by kernel_rfl) mk34 rfl hl (by omega)
  have hol := lt_of_block hrow
  have HP2 := Lib.hid (hp1.below hb2 hml1)
  have HB2 := Lib.hid (Below.link hb1 hb2)
  have HN2 := Lib.hid (Nest.new (base := w.heap.size) (av := [mb]) hrow (by simp; omega))
  have hob1 : w.heap.size ≤ w1.heap.size := by omega
  have hob2 : mb ≠ w1.heap.size := by omega
  clear hp1 hb1 hrow hb2 HPL
  go_wp2
  clear hmk
  obtain ⟨ob, hob⟩ : ∃ x, x = w1.heap.size := ⟨_, rfl⟩
  rw [← hob] at HN2 hob1 hob2
  try rw [← hob]
  clear hob hml1 hol hmb hsz1
  go_loopw [21] (fun i wr => ∃ (k : Nat) (ps : List Value), k ≤ hs.length ∧ i = .int .i64 k ∧ Nest w.heap.size ob [mb] (l.map fun x => covN hs x.pc k) ps wr ∧ PMap mb l wr ∧ (∀ (j : Nat) (x : Hd), j < k → hs[j]? = some x → okH l n x = true) ∧ Below w.heap.size w wr) (fun i _ => hs.length - (intOf i).toNat)
  case atStart =>
    refine ⟨0, (List.replicate l.length (.slice none 0 0)), Nat.zero_le _, rfl, ?_, HP2.out, fun j x hj => by omega, HB2.out⟩
    have e : (l.map fun x => covN hs x.pc 0) = List.replicate l.length [] := by
      apply List.ext_getElem?
      intro j
      simp [covN, List.getElem?_replicate]
      rcases h : l[j]? with _ | y
      · rw [if_neg (by have := List.getElem?_eq_none_iff.1 h; omega)]; rfl
      · rw [if_pos (List.getElem?_eq_some_iff.1 h).1]; rfl
    rw [e]
    exact HN2.out
  case round =>
    clear HN2 HP2 HB2
    obtain ⟨k, ps, hk, rfl, hne, hp, hok, hb⟩ := hrel
    have HNE := Lib.hid hne
    have HP := Lib.hid hp
    have HOK := Lib.hid hok
    have HBE := Lib.hid hb
    have hsz := hb.size
    clear hne hp hok hb
    by_cases hlt : k < hs.length
    · have hx := List.getElem?_eq_getElem hlt
      generalize hs[k] = x at hx
      obtain ⟨b, o, rfl, hbB, c0, c1, c2, c3⟩ := (HH.out.below HBE.out hB).at_ hx
      have HX := Lib.hid hx
      obtain ⟨hw1, hw2, hw3⟩ := HW.out x (List.mem_of_getElem? hx)
      have HI := fun W pc (hW : PMap mb l W) (h : i64 pc) => index_any mb l pc W hW h.1 h.2
      have HIX := Lib.hid HI
      have hbw : b < wr.heap.size := by omega
      clear hx HI
      go_upto_region 6 with fail
      go_cut [11, 12] (fun a b wx => a = .int .i64 (idxP l x.frm) ∧ b = .int .i64 (idxP l x.to) ∧ ∃ d, wx = wr.drewN d)
      case first =>
        go_quiet ((go_at_call 29; exact Calls.quiet_of_same (HIX.out _ _ (HP.out.drewN _) (by assumption))))
        go_wp2
        go_meet
        case rel => exact ⟨rfl, rfl, _, rfl⟩
      case rest =>
        obtain ⟨rfl, rfl, d, rfl⟩ := hcut
        have HNE1 := Lib.hid (HNE.out.below (below_dn (Below.refl _ _) d))
        have HP1 := Lib.hid (HP.out.drewN d)
        have HBE1 := Lib.hid (below_dn HBE.out d)
        have d0 : (wr.drewN d).cell? ⟨b, o + k * 4, none⟩ = _ := c0
        have d1 : (wr.drewN d).cell? ⟨b, o + k * 4 + 1, none⟩ = _ := c1
        have d2 : (wr.drewN d).cell? ⟨b, o + k * 4 + 2, none⟩ = _ := c2
        have hbW : b < (wr.drewN d).heap.size := hbw
        have hszW : w.heap.size ≤ (wr.drewN d).heap.size := hsz
        obtain ⟨W, hW⟩ : ∃ W, W = wr.drewN d := ⟨_, rfl⟩
        rw [← hW] at HNE1 HP1 HBE1 d0 d1 d2 hbW hszW
        rw [← hW]
        clear hW c0 c1 c2 c3 HNE HP HBE hbw hsz
        obtain ⟨T, hT⟩ : ∃ T : Int, T = if x.to = (n : Int) then (l.length : Int) else idxP l x.to := ⟨_, rfl⟩
        have HT := Lib.hid hT
        have hTb : -1 ≤ T ∧ T ≤ l.length := by rw [hT]; split; omega; have := idx_lt l x.to; omega
        clear hT
        go_upto_if 44 with fail
        go_cut [12] (fun a wx => a = .int .i64 T ∧ wx = W)
        case first =>
          by_cases hts : x.to = (n : Int)
          · have e1 : (x.to == (n : Int)) = true := by simpa using hts
            have e2 : T = l.length := by rw [HT.out, if_pos hts]
            subst e2
            clear hts
            go_wp2
            go_meet
            case rel => exact ⟨rfl, rfl⟩
          · have e1 : (x.to == (n : Int)) = false := by simpa using hts
            have e2 : T = idxP l x.to := by rw [HT.out, if_neg hts]
            subst e2
            clear hts
            go_wp2
            go_meet
            case rel => exact ⟨rfl, rfl⟩
        case rest =>
          obtain ⟨rfl, rfl⟩ := hcut
          have b1 := idx_lt l x.frm
          have b2 := idx_lt l x.to
          have b3 := idx_lt l x.at_
          have HI3 := HIX.out wc x.at_ HP1.out hw3
          have HOKX := Lib.hid (okH_eq (x := x) HT.out)
          obtain ⟨F, hF⟩ : ∃ F, idxP l x.frm = F := ⟨_, rfl⟩
          obtain ⟨G, hG⟩ : ∃ F, idxP l x.at_ = F := ⟨_, rfl⟩
          rw [hF] at HOKX b1
          rw [hG] at HOKX b3 HI3
          rw [hF]
          have HI4 := Lib.hid HI3
          have HFF := Lib.hid hF
          clear hF hG HI3 b2
          go_upto_region 9 with fail
          go_cut [62] (fun a wx => a = .bool (!okH l n x) ∧ wx = wc)
          case first =>
            by_cases h1 : F = -1
            · subst h1
              go_wp2
              go_meet
              case rel => exact ⟨by rw [HOKX.out]; simp, rfl⟩
            · have e1 : (F == -1) = false := by simpa using h1
              clear h1
              by_cases h2 : T = -1
              · subst h2
                go_wp2
                go_meet
                case rel => exact ⟨by rw [HOKX.out]; simp, rfl⟩
              · have e2 : (T == -1) = false := by simpa using h2
                clear h2
                by_cases h3 : G = -1
                · subst h3
                  go_wp2_with (first | (go_at_call 29; refine HI4.out.mono ?_; rintro e wi ⟨rfl, rfl⟩))
                  go_meet
                  case rel => exact ⟨by rw [HOKX.out]; simp, rfl⟩
                · have e3 : (G == -1) = false := by simpa using h3
                  clear h3
                  go_wp2_with (first | (go_at_call 29; refine HI4.out.mono ?_; rintro e wi ⟨rfl, rfl⟩))
                  go_meet
                  case rel => exact ⟨by rw [HOKX.out]; simp only [beq_eq_false_iff_ne] at e1 e2 e3; simp [e1, e2, e3], rfl⟩
          case rest =>
            obtain ⟨rfl, rfl⟩ := hcut
            rename_i wd _
            rcases hq : okH l n x with _ | _
            · have HE := Lib.hid (covE_bad HX.out hq)
              clear hq
              go_wp2
              go_ret2
              refine ⟨.slice none 0 0, by rw [HE.out]; rfl, ?_, HBE1.out⟩
              unfold covA
              rw [HE.out, if_neg (by decide)]
              exact LOwn.nil _ _
            · have hq2 := HOKX.out
              rw [hq] at hq2
              simp at hq2
              obtain ⟨⟨hF1, hT1⟩, hG1⟩ := hq2
              obtain ⟨f, rfl⟩ : ∃ f : Nat, F = f := ⟨F.toNat, by omega⟩
              obtain ⟨t, rfl⟩ : ∃ t : Nat, T = t := ⟨T.toNat, by omega⟩
              have hti : (x.to = (n : Int) ∧ t = l.length) ∨ idxP l x.to = (t : Nat) := by
                have := HT.out
                split at this
                · left; rename_i h; exact ⟨h, by omega⟩
                · right; exact this.symm
              have HIFF := Lib.hid (cov_iff HO.out HFF.out hti)
              have HQ := Lib.hid hq
              have htl : t ≤ l.length := by omega
              have hfl : f < l.length := by omega
              have e0 : covM l hs k f f = l.map fun x => covN hs x.pc k := covM_none l hs k f f (Nat.le_refl _)
              have HE0 := Lib.hid e0
              obtain ⟨i0, hi0, hz0, hz1, hz2⟩ := info3
              clear hq hti hF1 hT1 hG1 HOKX HFF HT HI4 hTb b1 b3 e0 d0 d1 d2
              go_wp2
              go_loopw [13] (fun i w3 => ∃ (m : Nat) (ps3 : List Value), f ≤ m ∧ (m ≤ t ∨ m = f) ∧ i = .int .i64 m ∧ Nest w.heap.size ob [mb] (covM l hs k f m) ps3 w3 ∧ PMap mb l w3 ∧ Below w.heap.size w w3) (fun i _ => t - (intOf i).toNat)
              case atStart => exact ⟨f, ps, Nat.le_refl _, .inr rfl, rfl, by rw [HE0.out]; exact HNE1.out, HP1.out, HBE1.out⟩
              case round =>
                clear HNE1 HP1 HBE1
                obtain ⟨m, ps3, hfm, hmt, rfl, hne3, hp3, hbe3⟩ := hrel
                have HNE3 := Lib.hid hne3
                have HP3 := Lib.hid hp3
                have HBE3 := Lib.hid hbe3
                have hsz3 := hbe3.size
                clear hne3 hp3 hbe3
                by_cases hml3 : m < t
                · have hy := List.getElem?_eq_getElem (show m < l.length by omega)
                  generalize l[m]'_ = y at hy
                  have hrow := covM_at (hs := hs) (k := k) (f := f) (i := m) hy
                  rw [if_neg (by omega)] at hrow
                  obtain ⟨p, hp⟩ : ∃ p, ps3[m]? = some p := ⟨_, List.getElem?_eq_getElem (by rw [HNE3.out.len, covM_len]; omega)⟩
                  have hown := HNE3.out.own m _ p hrow hp
                  obtain ⟨ap, cp, rfl⟩ := hown.form
                  have HP4 := Lib.hid hp
                  have HROW := Lib.hid hrow
                  have HY := Lib.hid hy
                  have hcl := len_covN hs y.pc k
                  have d3 := cells_of HNE3.out.out m
                  simp only [List.getElem?_toArray, hp] at d3
                  have how := HNE3.out.lt
                  clear hy hrow hp hown
                  obtain ⟨s, hs2⟩ : ∃ s, covN hs y.pc k = s := ⟨_, rfl⟩
                  rw [hs2] at HROW hcl
                  have HSS := Lib.hid hs2
                  rw [hs2] at d3 HP4
                  clear hs2
                  go_wp2_with (at_builtin; refine wpList_append_own2 rfl (.tmp 74) (.tmp 76) 34 rfl w.heap.size 3 i0 (.int .i64 0) 1 8 Try.underlying34 hi0 hz0 hz1 hz2 rfl (by decide) (.slice ap s.length cp) s.length (icells s) rfl (World.ownsRow.alloc (HNE3.out.own m s _ HROW.out HP4.out) _) ⟨_, 0, none⟩ 1 1 [.int .i64 (k : Int)] rfl rfl (new_at _ [.int .i64 (k : Int)] 3 _ rfl) (int_cells .i64 [(k : Int)]) (by unfold maxLen; omega) (by omega) (by simp; omega) ?_)
                  intro v3 w3 own3 hg3 hm3
                  obtain ⟨g1, g2, g3, g4, g5, g6⟩ := HNE3.out.push HROW.out HP4.out hsz3 own3 hg3 hm3 hob1
                  have HG1 := Lib.hid g1
                  have HG2 := Lib.hid (HP3.out.stay ((Below.heap_setCell _ ⟨ob, m, none⟩ v3 mb hob2).trans (g2 mb (by simp))))
                  have HG3 := Lib.hid g3
                  have hob3 := g4.trans HNE3.out.out
                  have f33 := free_of hob3 m
                  have c33 := cells_of hob3 m
                  simp only [List.getElem?_toArray, HP4.out] at c33
                  obtain ⟨a3, c3, rfl⟩ := own_form own3
                  clear own3 hg3 hm3 g1 g2 g3 g4 g5 g6 hob3 d3 how
                  go_wp2
                  go_roundw
                  case rel =>
                    refine ⟨.int .i64 ((m : Int) + 1), _, _, _, _, _, _, _, _, _, _, _, _, _, _, _, ⟨m + 1, ps3.set m (.slice a3 (s.length + 1) c3), by omega, by omega, by go_num, ?_, HG2.out, HBE3.out.trans HG3.out⟩, rfl⟩
                    have := covM_step (hs := hs) (k := k) (f := f) HY.out hfm
                    rw [HSS.out] at this
                    rw [← this]
                    exact HG1.out
                  case measure => simp [intOf]; omega
                · have hge : t ≤ m := by omega
                  go_wp2
                  go_roundw
                  case rel =>
                    refine ⟨k + 1, ps3, by omega, by go_num, ?_, HP3.out, fun j y hj hy => ?_, HBE3.out⟩
                    · rw [← covM_done (f := f) (i := m) HX.out]
                      · exact HNE3.out
                      · intro j y hy
                        rw [← HIFF.out j y hy]
                        omega
                    · rcases Nat.lt_or_eq_of_le (Nat.le_of_lt_succ hj) with h | rfl
                      · exact HOK.out j y h hy
                      · rw [HX.out] at hy; cases hy; exact HQ.out
                  case measure => simp [intOf]; omega
    · obtain rfl : k = hs.length := by omega
      go_wp2
      go_ret2
      have e0 := covE_ok (l := l) (n := (n : Int)) (hs := hs) fun k x hk => HOK.out k x (List.getElem?_eq_some_iff.1 hk).1 hk
      have hd := HNE.out.done hob1 (by rw [List.length_map]; unfold maxLen; omega)
      rw [List.length_map] at hd
      refine ⟨_, by rw [e0]; rfl, ?_, HBE.out⟩
      unfold covA
      rw [if_pos e0]
      exact hd
end Go.Proofs.Ytbeelcklbdnjnaa
