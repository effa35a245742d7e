/-
  CUT by wip/tools/rawprune.py: what is needed of an earlier stage's text.
-/
import Derived.Test.YtbeelcklbdnjnaaK7
set_option linter.unusedVariables false
set_option linter.unusedSimpArgs false
namespace Go.Proofs.Ytbeelcklbdnjnaa
open Go.RowKit

/-- The table of n cells, when the instructions l were marked. -/
def TabN (n : Nat) (C : Array Value) (l : List In) : Prop := C.size = n ∧ ∀ j : Nat, j < n → C[j]? = some (.bool (l.any fun x => x.pc == (j : Int)))
theorem TabN.snoc {n : Nat} {C : Array Value} {l : List In} (h : TabN n C l) {x : In} {p : Nat} (hx : x.pc = p) : TabN n (C.setIfInBounds p (.bool true)) (l ++ [x]) := by
  refine ⟨by simpa using h.1, fun j hj => ?_⟩
  rw [Array.getElem?_setIfInBounds]
  by_cases e : p = j
  · subst e
    rw [if_pos rfl, if_pos (by rw [h.1]; exact hj)]
    simp [hx]
  · rw [if_neg e, h.2 j hj]
    have : (x.pc == (j : Int)) = false := by rw [hx]; simp; omega
    simp [this]
def PcsN (n : Nat) (l : List In) : Prop := ∀ x ∈ l, 0 ≤ x.pc ∧ x.pc < n
theorem okJ_outN {n : Nat} {l : List In} (hp : PcsN n l) {t : Int} (h : t < 0 ∨ (n : Int) ≤ t) : okJ l t = false := by
  unfold okJ
  rw [List.any_eq_false]
  intro y hy
  have := hp y hy
  simp
  omega
theorem make_bools (w : World) (n : Nat) (hn : n ≤ 1000000) : ∃ C w', (Instr.makeSlice 36 (.int .i64 (n : Int)) (.int .i64 (n : Int))).run Try.prog w = .ok (.slice (some ⟨w.heap.size, 0, none⟩) n n) w' ∧ w'.heap[w.heap.size]? = some (.cells C 4 (0, 0)) ∧ TabN n C [] ∧ Below w.heap.size w w' := by
  obtain ⟨i0, hi, hz0, hz1, hz2⟩ : ∃ i, Try.prog.info? 4 = some i ∧ i.zero = some (.bool false) ∧ i.size = 1 ∧ i.bytes = 1 := info_parts (by kernel_rfl)
  obtain ⟨w', hr, hown, hg⟩ := run_make_full (P := Try.prog) w w.heap.size 36 4 i0 (.bool false) 1 Try.underlying36 hi hz0 hz1 .i64 .i64 n (by rw [hz2]; omega) (by unfold maxLen; omega) (Nat.le_refl _)
  rw [Nat.mul_one] at hown
  rcases hown.2 with ⟨h', _⟩ | ⟨g, cap, cur, h', _, hgg, _, _, hcs, htake⟩
  · simp at h'
  · simp only [Value.slice.injEq, Option.some.injEq, Addr.mk.injEq, and_true, true_and] at h'
    obtain ⟨rfl, rfl⟩ := h'
    refine ⟨cur, w', hr, hgg, ⟨by simpa using hcs, fun j hj => ?_⟩, (Below.refl _ _).grown hg (Nat.le_refl _) (fun k hk => by cases hk)⟩
    have e1 : (madeCells #[Value.bool false] n).toList = List.replicate n (.bool false) := toList_madeCells_one _ _
    have e2 : cur.toList.take (n * 1) = List.replicate n (.bool false) := by rw [htake]; exact e1
    have e3 := congrArg (fun l => l[j]?) e2
    simp only [Nat.mul_one, List.getElem?_take, if_pos hj] at e3
    rw [← Array.getElem?_toList, e3]
    simp [hj]
set_option maxRecDepth 1000000 in
set_option maxHeartbeats 6400000 in
theorem refFlow_any (B n : Nat) (l : List In) (v : Value) (w : World) (hr : NRow B w v l) (hB : B ≤ w.heap.size) (hl : l ≠ []) (hn4 : n ≤ 1000000) (hp : PcsN n l) :
    Calls Try.prog 25 #[v, .int .i64 n] w fun e w' => e = .returned (.int .i64 (flowP l)) ∧ Below w.heap.size w w' := by
  obtain ⟨A, c, rfl, hc, hm⟩ := hr.form
  unfold maxLen at hm
  have HR := Lib.hid hr
  have HP := Lib.hid hp
  have HE := fun op W => Lib.hid (refEnds_any op W)
  have hlen : 0 < l.length := List.length_pos_iff.2 hl
  obtain ⟨C0, wm, hmk, hcm, htm, hbm⟩ := make_bools w n hn4
  have T0 := Lib.hid hcm
  have TT0 := Lib.hid htm
  have B0 := Lib.hid hbm
  clear hr hp hl hcm htm hbm
  go_enter Try.func25, Try.ntmps25
  go_wp2
  clear hmk
  go_loopw [6] (fun i wr => ∃ (k : Nat) (C : Array Value), k ≤ l.length ∧ i = .int .i64 k ∧ wr.heap[w.heap.size]? = some (.cells C 4 (0, 0)) ∧ TabN n C (l.take k) ∧ Below w.heap.size w wr) (fun i _ => l.length - (intOf i).toNat)
  case atStart => exact ⟨0, C0, Nat.zero_le _, rfl, T0.out, TT0.out, B0.out⟩
  case round =>
    obtain ⟨k, C, hk, rfl, ht, htab, hb⟩ := hrel
    have HT := Lib.hid ht
    have HTAB := Lib.hid htab
    have HBE := Lib.hid hb
    have hsz := hb.size
    have htl := lt_of_block ht
    clear ht htab hb
    by_cases hlt : k < l.length
    · have hx := List.getElem?_eq_getElem hlt
      generalize l[k] = x at hx
      have hpx := HP.out x (List.mem_of_getElem? hx)
      obtain ⟨p, hpp⟩ : ∃ p : Nat, x.pc = p := ⟨x.pc.toNat, by omega⟩
      obtain ⟨b, o, Ak, ck, At, ct, rfl, hbB, _, _, c0, c1, c2, c3, c4⟩ := (HR.out.below HBE.out hB).at_ hx
      rw [hpp] at c0 hpx
      have hp4 : p < n := by omega
      have hcp := (cells_of HT.out p).trans (HTAB.out.2 p hp4)
      have hfp := free_of HT.out p
      have HX := Lib.hid hx
      have HPP := Lib.hid hpp
      have hbw : b < w.heap.size := by omega
      clear hx hpp
      go_wp2
      go_roundw
      case rel =>
        refine ⟨k + 1, C.setIfInBounds p (.bool true), by omega, by go_num, heap_set_eq HT.out (by rw [HTAB.out.1]; exact hp4), ?_, HBE.out.setCell (by simp) _⟩
        rw [List.take_add_one, HX.out]
        exact HTAB.out.snoc HPP.out
      case measure => simp [intOf]; omega
    · obtain rfl : k = l.length := by omega
      rw [List.take_length] at HTAB
      clear hk hlt T0 B0
      go_wp2
      go_loopw [7] (fun i w2 => ∃ (k : Nat), k ≤ l.length ∧ i = .int .i64 k ∧ (∀ (m : Nat) (x : In), m < k → l[m]? = some x → ∀ t ∈ x.to, okJ l t = true) ∧ w2.heap[w.heap.size]? = some (.cells C 4 (0, 0)) ∧ Below w.heap.size w w2) (fun i _ => l.length - (intOf i).toNat)
      case atStart => exact ⟨0, Nat.zero_le _, rfl, fun m x hm => by omega, HT.out, HBE.out⟩
      case round =>
        clear HT HBE hsz htl
        obtain ⟨k, hk, rfl, hok, ht, hb⟩ := hrel
        have HT := Lib.hid ht
        have HOK := Lib.hid hok
        have HBE := Lib.hid hb
        have hsz := hb.size
        have htl := lt_of_block ht
        clear ht hok hb
        by_cases hlt : k < l.length
        · have hx := List.getElem?_eq_getElem hlt
          generalize l[k] = x at hx
          obtain ⟨b, o, Ak, ck, At, ct, rfl, hbB, _, hto, c0, c1, c2, c3, c4⟩ := (HR.out.below HBE.out hB).at_ hx
          obtain ⟨_, _, _, hcx, hmx⟩ := hto.form
          unfold maxLen at hmx
          have HTO := Lib.hid hto
          have HX := Lib.hid hx
          have hbw : b < w.heap.size := by omega
          clear hto hx
          go_wp2
          go_loop [8] (fun i => ∃ j : Nat, j ≤ x.to.length ∧ i = .int .i64 j ∧ ∀ (m : Nat) (t : Int), m < j → x.to[m]? = some t → okJ l t = true) (fun i => x.to.length - (intOf i).toNat)
          case atStart => exact ⟨0, Nat.zero_le _, rfl, fun m t hm => by omega⟩
          case round =>
            obtain ⟨j, hj, rfl, hoj⟩ := hrel
            have HOJ := Lib.hid hoj
            clear hoj
            by_cases hjl : j < x.to.length
            · have ht := List.getElem?_eq_getElem hjl
              generalize x.to[j] = t at ht
              obtain ⟨b2, o2, rfl, hb2B, ct0⟩ := HTO.out.at_ ht
              have HTT := Lib.hid ht
              have hb2w : b2 < wr.heap.size := by omega
              clear ht
              by_cases h0 : t < 0
              · have HNO := Lib.hid (okJ_outN HP.out (.inl h0))
                go_wp2
                go_ret
                exact ⟨ret_i (jumps_no HX.out (List.mem_of_getElem? HTT.out) HNO.out).symm, HBE.out⟩
              · by_cases h1 : (n : Int) ≤ t
                · have HNO := Lib.hid (okJ_outN HP.out (.inr h1))
                  have h0' : 0 ≤ t := by omega
                  clear h0
                  go_wp2
                  go_ret
                  exact ⟨ret_i (jumps_no HX.out (List.mem_of_getElem? HTT.out) HNO.out).symm, HBE.out⟩
                · obtain ⟨p, rfl⟩ : ∃ p : Nat, t = p := ⟨t.toNat, by omega⟩
                  have hp4 : p < n := by omega
                  have hcp := (cells_of HT.out p).trans (HTAB.out.2 p hp4)
                  have hfp := free_of HT.out p
                  clear h0 h1
                  obtain ⟨q, hq⟩ : ∃ q, (l.any fun x => x.pc == (p : Int)) = q := ⟨_, rfl⟩
                  rw [hq] at hcp
                  have HQ := Lib.hid (show okJ l p = q from hq)
                  clear hq
                  cases q with
                  | false =>
                    go_wp2
                    go_ret
                    exact ⟨ret_i (jumps_no HX.out (List.mem_of_getElem? HTT.out) HQ.out).symm, HBE.out⟩
                  | true =>
                    go_wp2
                    go_round
                    case rel =>
                      refine ⟨j + 1, by omega, by go_num, fun m t hm ht => ?_⟩
                      rcases Nat.lt_or_eq_of_le (Nat.le_of_lt_succ hm) with h | rfl
                      · exact HOJ.out m t h ht
                      · rw [HTT.out] at ht; cases ht; exact HQ.out
                    case measure => simp [intOf]; omega
            · go_wp2
              go_roundw
              case rel =>
                refine ⟨k + 1, by omega, by go_num, fun m y hm hy t ht => ?_, HT.out, HBE.out⟩
                rcases Nat.lt_or_eq_of_le (Nat.le_of_lt_succ hm) with h | rfl
                · exact HOK.out m y h hy t ht
                · rw [HX.out] at hy
                  cases hy
                  obtain ⟨n, hn⟩ := List.mem_iff_getElem?.1 ht
                  exact HOJ.out n t (by have := (List.getElem?_eq_some_iff.1 hn).1; omega) hn
              case measure => simp [intOf]; omega
        · obtain rfl : k = l.length := by omega
          obtain ⟨n, hn⟩ : ∃ n, l.length = n + 1 := ⟨l.length - 1, by omega⟩
          have hx := List.getElem?_eq_getElem (show n < l.length by omega)
          generalize l[n] = x at hx
          have hj := jumps_yes fun i x hi => HOK.out i x (List.getElem?_eq_some_iff.1 hi).1 hi
          rw [last_of (x := x) (by rw [hn]; exact hx)] at hj
          obtain ⟨b, o, Ak, ck, At, ct, rfl, hbB, _, _, c0, c1, c2, c3, c4⟩ := (HR.out.below HBE.out hB).at_ hx
          have hbw : b < w.heap.size := by omega
          have HEE := fun W => Lib.hid (refEnds_any x.op W)
          obtain ⟨q, hq⟩ : ∃ q, endsP x.op = q := ⟨_, rfl⟩
          rw [hq] at hj HEE
          clear hx hq hk hlt HOK HE
          cases q with
          | true =>
            have HJ := Lib.hid hj
            clear hj
            go_wp2_with fail
            refine (HEE _).out.mono ?_
            rintro e w4 ⟨rfl, rfl⟩
            go_wp2
            go_ret
            exact ⟨ret_i (by rw [HJ.out]; rfl), HBE.out⟩
          | false =>
            have HJ := Lib.hid hj
            clear hj
            go_wp2_with fail
            refine (HEE _).out.mono ?_
            rintro e w4 ⟨rfl, rfl⟩
            go_wp2
            go_ret
            exact ⟨ret_i (by rw [HJ.out]; rfl), HBE.out⟩
end Go.Proofs.Ytbeelcklbdnjnaa
