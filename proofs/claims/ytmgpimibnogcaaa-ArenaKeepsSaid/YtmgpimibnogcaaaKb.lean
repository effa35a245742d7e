/-
  What is held: blocks and what was written into them; WALK of kept.
-/
import Derived.Test.YtmgpimibnogcaaaKa
set_option linter.unusedVariables false
set_option linter.unusedSimpArgs false
namespace Go.Proofs.Ytmgpimibnogcaaa
open Go.RowKit

/-- A block that is held: its address, the row of what was written, where that row lies. -/
structure Hl where
  ad : Int
  bb : Nat
  body : List Int
def Hl.cells (h : Hl) : List Value := [.int .i64 h.ad, .slice (some ⟨h.bb, 0, none⟩) h.body.length h.body.length]
def Hl.pr (h : Hl) : Int × List Int := (h.ad, h.body)
structure HMem (base : Nat) (w : World) (v : Value) (hs : List Hl) : Prop where
  own : w.ownsRow base 45 2 v hs.length (hs.flatMap Hl.cells)
  rows : ∀ h ∈ hs, base ≤ h.bb ∧ w.heap[h.bb]? = some (.cells (icells h.body).toArray 3 (0, 0))
  nd : (hs.map Hl.bb).Nodup
section
variable {base : Nat} {w w' : World} {v : Value} {hs : List Hl}
theorem HMem.nil (base : Nat) (w : World) : HMem base w (.slice none 0 0) [] := ⟨World.ownsRow_nil _ _ _ _, fun h hh => by simp at hh, List.nodup_nil⟩
theorem HMem.upd {S : List Nat} (h : HMem base w v hs) (hu : Upd S w w') (hS : ∀ x ∈ S, x < base) : HMem base w' v hs :=
  ⟨own_upd h.own hu fun g hg hx => by have := own_block_ge h.own g hg; have := hS g hx; omega, fun x hx => ⟨(h.rows x hx).1, (hu.block _ (lt_of_block (h.rows x hx).2) (fun hm => by have := hS _ hm; have := (h.rows x hx).1; omega)).trans (h.rows x hx).2⟩, h.nd⟩
theorem HMem.below (h : HMem base w v hs) (hb : Below w.heap.size w w') : HMem base w' v hs := h.upd (S := []) (Upd.of_below hb) (fun x hx => by simp at hx)
theorem HMem.drewN (h : HMem base w v hs) (n : Nat) : HMem base (w.drewN n) v hs := h.below (below_drewN (Below.refl _ _) n)
theorem HMem.form (h : HMem base w v hs) : ∃ A c, v = .slice A hs.length c := own_form h.own
theorem Hl.flat {l : List Hl} {k : Nat} {x : Hl} (h : l[k]? = some x) {j : Nat} (hj : j < 2) : (l.flatMap Hl.cells)[k * 2 + j]? = x.cells[j]? := flat_at Hl.cells 2 (fun _ => rfl) l k x h j hj
theorem HMem.at_ {A : Option Addr} {n c : Nat} (h : HMem base w (.slice A n c) hs) {k : Nat} {x : Hl} (hk : hs[k]? = some x) :
    ∃ g, A = some ⟨g, 0, none⟩ ∧ g < w.heap.size ∧ w.cell? ⟨g, k * 2, none⟩ = some (.int .i64 x.ad) ∧ w.cell? ⟨g, k * 2 + 1, none⟩ = some (.slice (some ⟨x.bb, 0, none⟩) x.body.length x.body.length) ∧ x.bb < w.heap.size ∧ (∀ j y, x.body[j]? = some y → w.cell? ⟨x.bb, j, none⟩ = some (.int .i64 y)) ∧ ∀ j, w.frozen? ⟨x.bb, j, none⟩ = false := by
  have hm := List.mem_of_getElem? hk
  have hr := (h.rows x hm).2
  have hn : 0 < hs.length := by have := (List.getElem?_eq_some_iff.1 hk).1; omega
  obtain ⟨g, cap, e, _, hg⟩ := World.ownsRow.form h.own hn
  injection e with e1 e2 e3
  subst e1
  have hc := h.own.cells (g := g) rfl
  have c0 := hc (k * 2 + 0) _ (by rw [Hl.flat hk (by decide)]; rfl)
  have c1 := hc (k * 2 + 1) _ (by rw [Hl.flat hk (by decide)]; rfl)
  rw [plain_add, Nat.zero_add] at c0 c1
  refine ⟨g, rfl, hg, c0, c1, lt_of_block hr, fun j y hy => ?_, fun j => free_of hr j⟩
  rw [cells_of hr, List.getElem?_toArray]
  unfold icells
  rw [List.getElem?_map, hy]
  rfl
end
theorem HMem.atg {base g n c : Nat} {w : World} {hs : List Hl} (h : HMem base w (.slice (some ⟨g, 0, none⟩) n c) hs) {k : Nat} {x : Hl} (hk : hs[k]? = some x) :
    w.cell? ⟨g, k * 2, none⟩ = some (.int .i64 x.ad) ∧ w.cell? ⟨g, k * 2 + 1, none⟩ = some (.slice (some ⟨x.bb, 0, none⟩) x.body.length x.body.length) ∧ x.bb < w.heap.size := by
  obtain ⟨g', e, _, h1, h2, h3, _⟩ := h.at_ hk
  injection e with e
  injection e with e
  subst e
  exact ⟨h1, h2, h3⟩
theorem dis_at {l : List (Int × List Int)} (h : l.Pairwise Dis) {k i : Nat} {x y : Int × List Int} (hki : k < i) (hk : l[k]? = some y) (hi : l[i]? = some x) : Dis y x := by
  obtain ⟨h1, e1⟩ := List.getElem?_eq_some_iff.1 hk
  obtain ⟨h2, e2⟩ := List.getElem?_eq_some_iff.1 hi
  have := List.pairwise_iff_getElem.1 h k i h1 h2 hki
  rwa [e1, e2] at this
theorem sumB_take_le : ∀ (l : List (Int × List Int)) (k : Nat), sumB (l.take k) ≤ sumB l
  | [], k => by rw [List.take_nil]; exact Nat.le_refl _
  | x :: r, 0 => Nat.zero_le _
  | x :: r, k + 1 => by rw [List.take_succ_cons, sumB, sumB]; have := sumB_take_le r k; omega
theorem sumB_next {l : List (Int × List Int)} {k : Nat} {x : Int × List Int} (h : l[k]? = some x) : sumB (l.take (k + 1)) = sumB (l.take k) + (x.2.length + 1) := by
  rw [List.take_add_one, h, sumB_append]
  rfl
theorem sumOf_le (Bs : List Blk) : sumOf true Bs ≤ len Bs := by have := sumOf_all Bs; omega
set_option maxRecDepth 1000000 in
set_option maxHeartbeats 6400000 in
theorem kept_any (q p b N base : Nat) (Bs : List Blk) (v : Value) (hs : List Hl) (w : World) (h : Arena q p b Bs w) (hN : 1 + len Bs = N) (hm : HMem base w v hs) (hp : (usedB 1 Bs).Perm (hs.map Hl.pr)) :
    Calls Try.prog 21 #[.pointer (some ⟨q, 0, none⟩), v, .int .i64 (N : Int)] w fun e w' => e = .returned (.bool true) ∧ Below w.heap.size w w' := by
  obtain ⟨A, cap, rfl⟩ := hm.form
  have hlen : len Bs ≤ 1048576 := by have := h.1.n2; rw [words_length] at this; omega
  have hsum : sumB (hs.map Hl.pr) = sumOf true Bs := by rw [← sumB_perm hp, sumB_used]
  have hsle := sumOf_le Bs
  have hcnt : hs.length ≤ 1048576 := by
    have h1 := hp.length_eq
    have h2 := usedL_length 1 Bs
    rw [← usedB_fst, List.length_map] at h2
    rw [List.length_map] at h1
    omega
  have hul : (usedL 1 Bs).length = hs.length := by rw [← usedB_fst, List.length_map, hp.length_eq, List.length_map]
  have hda : (hs.map Hl.pr).Pairwise Dis := (hp.pairwise_iff (fun h => h.symm)).1 (usedB_dis 1 Bs)
  have hbd : ∀ x ∈ hs, 1 ≤ x.ad ∧ x.ad + x.body.length + 1 ≤ (N : Int) := fun x hx => by
    have h1 := usedB_ge (hp.mem_iff.2 (List.mem_map.2 ⟨x, hx, rfl⟩) : x.pr ∈ usedB 1 Bs)
    have e1 : x.pr.1 = x.ad := rfl
    have e2 : x.pr.2 = x.body := rfl
    rw [e1, e2] at h1
    have := h1.1
    have := h1.2
    constructor <;> omega
  have HA := Lib.hid h
  have HM := Lib.hid hm
  have HP := Lib.hid hp
  have HDA := Lib.hid hda
  have HBD := Lib.hid hbd
  have HUL := Lib.hid hul
  have HSUM := Lib.hid hsum
  have hall := sumOf_all Bs
  generalize hn0 : hs.length = n at *
  have HN0 := Lib.hid hn0
  clear h hm hp hda hbd hul hsum hn0
  have HW := Lib.hid (words_any q p b Bs w HA.out)
  obtain ⟨S, hS⟩ : ∃ S, sumOf true Bs = S := ⟨_, rfl⟩
  obtain ⟨F, hF⟩ : ∃ F, sumOf false Bs = F := ⟨_, rfl⟩
  rw [hS] at HSUM hsle hall
  rw [hF] at hall
  rw [hS, hF] at HW
  clear hS hF
  go_enter Try.func21, Try.ntmps21
  go_wp2_with fail
  refine HW.out.mono ?_
  rintro e w1 ⟨rfl, hb1⟩
  have A1 := Lib.hid (HA.out.below hb1)
  have M1 := Lib.hid (HM.out.below hb1)
  have B1 := Lib.hid hb1
  clear hb1 HA HM HW
  go_wp2
  go_loopg [9, 10] n (fun g sv iv wx => ∃ i : Nat, iv = .int .i64 (i : Int) ∧ i + g = n ∧ sv = .int .i64 (sumB ((hs.map Hl.pr).take i) : Int) ∧ ∃ d, wx = w1.drewN d)
  case atStart => exact ⟨0, rfl, by omega, rfl, 0, rfl⟩
  case round =>
    obtain ⟨i, rfl, hig, rfl, d, rfl⟩ := hrel
    by_cases hi : i < n
    · have hii : (i : Int) < (n : Int) := by omega
      obtain ⟨gO, rfl⟩ : ∃ gO, gk = gO + 1 := ⟨gk - 1, by omega⟩
      have hgg : gO < gO + 1 := by omega
      obtain ⟨x, hx⟩ : ∃ x, hs[i]? = some x := ⟨_, List.getElem?_eq_getElem (by rw [HN0.out]; exact hi)⟩
      obtain ⟨g, rfl, hg, c0, c1, hxb, hcx, _⟩ := (M1.out.drewN d).at_ hx
      have hnx := sumB_next (l := hs.map Hl.pr) (k := i) (x := x.pr) (by rw [List.getElem?_map, hx]; rfl)
      have hle := sumB_take_le (hs.map Hl.pr) (i + 1)
      rw [HSUM.out] at hle
      have e2 : x.pr.2 = x.body := rfl
      rw [e2] at hnx
      have HNX := Lib.hid hnx
      have hxm := List.mem_of_getElem? hx
      have hbx := HBD.out x hxm
      have HXU := Lib.hid (show x.pr ∈ usedB 1 Bs from HP.out.mem_iff.2 (List.mem_map.2 ⟨x, hxm, rfl⟩))
      have HCX := Lib.hid hcx
      have HX := Lib.hid hx
      rw [hnx] at hle
      clear hnx hcx hx e2 hxm
      generalize sumB ((hs.map Hl.pr).take i) = s at *
      have hw1 : IntKind.i64.wrap ((s : Int) + (x.body.length : Int)) = (s : Int) + (x.body.length : Int) := IntWalk.i64_in _ (by omega)
      have hw2 : IntKind.i64.wrap ((s : Int) + (x.body.length : Int) + 1) = (s : Int) + (x.body.length : Int) + 1 := IntWalk.i64_in _ (by omega)
      generalize hbl : x.body.length = bl at *
      have HBL := Lib.hid hbl
      clear hbl
      go_wp2
      go_loopg [11] bl (fun g2 kv wx => ∃ k : Nat, kv = .int .i64 (k : Int) ∧ k + g2 = bl ∧ ∃ d, wx = w1.drewN d)
      case atStart => exact ⟨0, rfl, by omega, d, rfl⟩
      case round =>
        obtain ⟨k, rfl, hkg, d2, rfl⟩ := hrel
        have c0' : (w1.drewN d2).cell? ⟨g, i * 2, none⟩ = some (.int .i64 x.ad) := c0
        have c1' : (w1.drewN d2).cell? ⟨g, i * 2 + 1, none⟩ = some (.slice (some ⟨x.bb, 0, none⟩) bl bl) := c1
        by_cases hk : k < bl
        · have hkk : (k : Int) < (bl : Int) := by omega
          have hgg2 : gk - 1 < gk := by omega
          obtain ⟨y, hy⟩ : ∃ y, x.body[k]? = some y := ⟨_, List.getElem?_eq_getElem (by rw [HBL.out]; exact hk)⟩
          have HRD := Lib.hid (keeps_read HXU.out (A1.out.drewN d2) k y hy)
          have hcy := HCX.out k y hy
          have hyy : ((y == y) : Bool) = true := by simp
          have HAD := Lib.hid (show x.pr.1 = x.ad from rfl)
          rw [HAD.out] at HRD
          clear hy HAD
          go_wp2_with fail
          refine HRD.out.mono ?_
          rintro e w3 ⟨rfl, d3, hd3⟩
          rw [drewN_two] at hd3
          subst hd3
          have c0'' : (w1.drewN (d2 + d3)).cell? ⟨g, i * 2, none⟩ = some (.int .i64 x.ad) := c0
          have c1'' : (w1.drewN (d2 + d3)).cell? ⟨g, i * 2 + 1, none⟩ = some (.slice (some ⟨x.bb, 0, none⟩) bl bl) := c1
          have cy : (w1.drewN (d2 + d3)).cell? ⟨x.bb, k, none⟩ = some (.int .i64 y) := hcy
          clear hcy
          go_wp2
          go_roundg (gk - 1)
          case measure => exact hgg2
          case rel => exact ⟨k + 1, by go_num, by omega, _, rfl⟩
        · have hkk : ¬ (k : Int) < (bl : Int) := by omega
          go_wp2
          clear c0' c1'
          go_loopg [14] i (fun g3 kv wx => ∃ k : Nat, kv = .int .i64 (k : Int) ∧ k + g3 = i ∧ ∃ d, wx = w1.drewN d)
          case atStart => exact ⟨0, rfl, by omega, d2, rfl⟩
          case round =>
            obtain ⟨k3, rfl, hkg3, d3, rfl⟩ := hrel
            by_cases hk3 : k3 < i
            · have hk3i : (k3 : Int) < (i : Int) := by omega
              have hk3n : k3 < n := by omega
              have hk3ni : (k3 : Int) < (n : Int) := by omega
              have hgg3 : gk - 1 < gk := by omega
              obtain ⟨y, hy⟩ : ∃ y, hs[k3]? = some y := ⟨_, List.getElem?_eq_getElem (by rw [HN0.out]; omega)⟩
              have hby := HBD.out y (List.mem_of_getElem? hy)
              have hdis : Dis y.pr x.pr := dis_at HDA.out hk3 (by rw [List.getElem?_map, hy]; rfl) (by rw [List.getElem?_map, HX.out]; rfl)
              obtain ⟨y0, y1, hyb⟩ := M1.out.atg hy
              have c0' : w1.cell? ⟨g, i * 2, none⟩ = some (.int .i64 x.ad) := c0
              have c1' : w1.cell? ⟨g, i * 2 + 1, none⟩ = some (.slice (some ⟨x.bb, 0, none⟩) bl bl) := c1
              have hdis2 : y.ad + y.body.length + 1 ≤ x.ad ∨ x.ad + bl + 1 ≤ y.ad := by
                rw [← HBL.out]
                exact hdis
              have hgd : g < w1.heap.size := hg
              clear hy hdis
              generalize y.body.length = yl at *
              generalize y.ad = ya at *
              have hv1 : IntKind.i64.wrap (x.ad + (bl : Int)) = x.ad + (bl : Int) := IntWalk.i64_in _ (by omega)
              have hv2 : IntKind.i64.wrap (x.ad + (bl : Int) + 1) = x.ad + (bl : Int) + 1 := IntWalk.i64_in _ (by omega)
              have hv3 : IntKind.i64.wrap (ya + (yl : Int)) = ya + (yl : Int) := IntWalk.i64_in _ (by omega)
              have hv4 : IntKind.i64.wrap (ya + (yl : Int) + 1) = ya + (yl : Int) + 1 := IntWalk.i64_in _ (by omega)
              by_cases hc1 : ya < x.ad + (bl : Int) + 1
              · have hc2 : ¬ x.ad < ya + (yl : Int) + 1 := by omega
                go_wp2
                go_quiet (fail)
                go_wp2
                go_roundg (gk - 1)
                case measure => exact hgg3
                case rel => exact ⟨k3 + 1, by go_num, by omega, _, rfl⟩
              · have hcf : (ya < x.ad + (bl : Int) + 1) = False := eq_false hc1
                go_wp2
                go_quiet (exact ⟨rfl, rfl⟩)
                go_wp2
                go_roundg (gk - 1)
                case measure => exact hgg3
                case rel => exact ⟨k3 + 1, by go_num, by omega, _, rfl⟩
            · have hk3i : ¬ (k3 : Int) < (i : Int) := by omega
              go_wp2
              go_roundg gO
              case measure => exact hgg
              case rel => exact ⟨i + 1, by go_num, by omega, by rw [HNX.out]; rfl, _, rfl⟩
    · obtain rfl : n = i := by omega
      have hii : ¬ (n : Int) < (n : Int) := by omega
      have hfull : sumB ((hs.map Hl.pr).take n) = S := by rw [List.take_of_length_le (by rw [List.length_map, HN0.out]; exact Nat.le_refl _), HSUM.out]
      rw [hfull]
      have hz1 : ((S : Int) == (S : Int)) = true := by simp
      have hz2 : IntKind.i64.wrap ((S : Int) + (F : Int)) = (len Bs : Int) := by rw [IntWalk.i64_in _ (by omega)]; omega
      have hz3 : IntKind.i64.wrap ((N : Int) - 1) = (len Bs : Int) := by rw [IntWalk.i64_in _ (by omega)]; omega
      have hz4 : ((len Bs : Int) == (len Bs : Int)) = true := by simp
      have hz5 : ((n : Int) == (n : Int)) = true := by simp
      clear hfull hall hsle hN
      go_wp2_with fail
      refine (used_any q p b Bs _ (A1.out.drewN d)).mono ?_
      rintro e w5 ⟨v5, rfl, ho5, hb5⟩
      obtain ⟨a5, c5, hv5⟩ := ho5.form
      rw [HUL.out] at hv5
      subst hv5
      have B5 := Lib.hid ((below_drewN B1.out d).trans (hb5.mono (below_drewN B1.out d).size))
      clear hb5 ho5
      go_wp2
      go_ret
      exact ⟨rfl, B5.out⟩
end Go.Proofs.Ytmgpimibnogcaaa
