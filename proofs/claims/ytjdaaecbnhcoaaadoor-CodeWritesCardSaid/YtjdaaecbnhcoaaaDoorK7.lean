/-
  WALK of the errors of where instructions lead.
-/
import Derived.Test.YtjdaaecbnhcoaaaDoorK6
import Derived.Great.Walk
set_option linter.unusedVariables false
set_option linter.unusedSimpArgs false
namespace Go.Proofs.YtjdaaecbnhcoaaaDoor
open Go.RowKit

theorem info70 : Tryd.prog.info? 70 = some Tryd.t70 := by kernel_rfl
def zs (t : TypeInfo) : Array Value := match t.zero with | some (.agg cs) => cs | _ => #[]
def isF : Value → Bool | .bool false => true | _ => false
def hasZ (t : TypeInfo) : Bool := match t.zero with | some (.agg _) => true | _ => false
theorem z70_has : hasZ Tryd.t70 = true := by kernel_rfl
theorem z70_len : ((zs Tryd.t70).toList.length == 4096) = true := by kernel_rfl
theorem z70_all : (zs Tryd.t70).toList.all isF = true := by kernel_rfl
/-- The table of places, all of it false. -/
noncomputable def Z70 : Array Value := zs Tryd.t70
theorem Z70_size : Z70.size = 4096 := by
  have := z70_len
  simp only [beq_iff_eq] at this
  show (zs Tryd.t70).size = 4096
  simpa using this
theorem Z70_at (i : Nat) (h : i < 4096) : Z70[i]? = some (.bool false) := by
  have hs := Z70_size
  have hi : i < Z70.size := by omega
  rw [Array.getElem?_eq_getElem hi]
  have := List.all_eq_true.1 z70_all Z70[i] (by simp [Z70])
  generalize Z70[i] = v at this
  cases v <;> simp [isF] at this
  rename_i b
  cases b <;> simp_all
theorem z70_zero : Tryd.t70.zero = some (.agg Z70) := by
  have := z70_has
  unfold Z70 zs hasZ at *
  split at this
  · rename_i e; rw [e]
  · cases this
theorem zero70 (w : World) : (zeroValue 70).run Tryd.prog w = .ok (.agg Z70) w := by
  have hz := z70_zero
  have hi := info70
  simp [zeroValue, typeInfo, hi, hz, Sem.run_bind, go_sem]
/-- The table's cells, when the instructions l were marked. -/
def Tab (C : Array Value) (l : List In) : Prop := C.size = 4096 ∧ ∀ j : Nat, j < 4096 → C[j]? = some (.bool (l.any fun x => x.pc == (j : Int)))
theorem Tab.nil : Tab Z70 [] := ⟨Z70_size, fun j hj => by rw [Z70_at j hj]; rfl⟩
theorem Tab.snoc {C : Array Value} {l : List In} (h : Tab C l) {x : In} {p : Nat} (hx : x.pc = p) : Tab (C.setIfInBounds p (.bool true)) (l ++ [x]) := by
  refine ⟨by simpa using h.1, fun j hj => ?_⟩
  rw [Array.getElem?_setIfInBounds]
  by_cases e : p = j
  · subst e
    rw [if_pos rfl, if_pos (by rw [h.1]; exact hj)]
    simp [hx]
  · rw [if_neg e, h.2 j hj]
    have : (x.pc == (j : Int)) = false := by rw [hx]; simp; omega
    simp [this]
/-- Every place is one of the table's. -/
def Pcs (l : List In) : Prop := ∀ x ∈ l, 0 ≤ x.pc ∧ x.pc < 4096
def okJ (l : List In) (t : Int) : Bool := l.any fun y => y.pc == t
theorem jumps_no {l : List In} {i : Nat} {x : In} {t : Int} (hx : l[i]? = some x) (ht : t ∈ x.to) (h : okJ l t = false) : flowP l = 12 := by
  unfold flowP
  rw [if_neg]
  intro hj
  unfold jumpsP at hj
  have := List.all_eq_true.1 hj x (List.mem_of_getElem? hx)
  have := List.all_eq_true.1 this t ht
  unfold okJ at h
  rw [h] at this
  cases this
theorem jumps_yes {l : List In} (h : ∀ (i : Nat) (x : In), l[i]? = some x → ∀ t ∈ x.to, okJ l t = true) : flowP l = if endsP (lastP l) then 0 else 13 := by
  unfold flowP
  rw [if_pos]
  unfold jumpsP
  rw [List.all_eq_true]
  intro x hx
  rw [List.all_eq_true]
  intro t ht
  obtain ⟨i, hi⟩ := List.mem_iff_getElem?.1 hx
  exact h i x hi t ht
theorem okJ_out {l : List In} (hp : Pcs l) {t : Int} (h : t < 0 ∨ 4096 ≤ t) : okJ l t = false := by
  unfold okJ
  rw [List.any_eq_false]
  intro y hy
  have := hp y hy
  simp
  omega
theorem last_of {l : List In} {x : In} (h : l[l.length - 1]? = some x) : lastP l = x.op := by
  unfold lastP
  rw [List.getLast?_eq_getElem?, h]
  rfl
set_option maxRecDepth 1000000 in
set_option maxHeartbeats 6400000 in
theorem flow_any (B : Nat) (l : List In) (v : Value) (w : World) (hr : NRow B w v l) (hB : B ≤ w.heap.size) (hl : l ≠ []) (hp : Pcs l) :
    Calls Tryd.prog 33 #[v] w fun e w' => e = .returned (.int .i64 (flowP l)) ∧ Below w.heap.size w w' := by
  obtain ⟨A, c, rfl, hc, hm⟩ := hr.form
  unfold maxLen at hm
  have HR := Lib.hid hr
  have HP := Lib.hid hp
  have HE := fun op W => Lib.hid (ends_any op W)
  have hlen : 0 < l.length := List.length_pos_iff.2 hl
  have T0 := Lib.hid (heap_new w (.cells Z70 70))
  have B0 := Lib.hid ((Below.refl w.heap.size w).alloc (Nat.le_refl _) (.cells Z70 70))
  clear hr hp hl
  go_enter Tryd.func33, Tryd.ntmps33
  have hz70 := zero70 w
  go_wp2
  clear hz70
  go_loopw [12] (fun i wr => ∃ (k : Nat) (C : Array Value), k ≤ l.length ∧ i = .int .i64 k ∧ wr.heap[w.heap.size]? = some (.cells C 70 (0, 0)) ∧ Tab C (l.take k) ∧ Below w.heap.size w wr) (fun i _ => l.length - (intOf i).toNat)
  case atStart => exact ⟨0, Z70, Nat.zero_le _, rfl, T0.out, Tab.nil, B0.out⟩
  case round =>
    obtain ⟨k, C, hk, rfl, ht, htab, hb⟩ := hrel
    have HT := Lib.hid ht
    have HTAB := Lib.hid htab
    have HBE := Lib.hid hb
    have hsz := hb.size
    have htl := lt_of_block ht
    clear ht htab hb
    by_cases hlt : k < l.length
    · have hx := List.getElem?_eq_getElem hlt
      generalize l[k] = x at hx
      have hpx := HP.out x (List.mem_of_getElem? hx)
      obtain ⟨p, hpp⟩ : ∃ p : Nat, x.pc = p := ⟨x.pc.toNat, by omega⟩
      obtain ⟨b, o, Ak, ck, At, ct, rfl, hbB, _, _, c0, c1, c2, c3, c4⟩ := (HR.out.below HBE.out hB).at_ hx
      rw [hpp] at c0 hpx
      have hp4 : p < 4096 := by omega
      have hcp := (cells_of HT.out p).trans (HTAB.out.2 p hp4)
      have hfp := free_of HT.out p
      have HX := Lib.hid hx
      have HPP := Lib.hid hpp
      have hbw : b < w.heap.size := by omega
      clear hx hpp
      go_wp2
      go_roundw
      case rel =>
        refine ⟨k + 1, C.setIfInBounds p (.bool true), by omega, by go_num, heap_alloc_lt (heap_set_eq HT.out (by rw [HTAB.out.1]; exact hp4)), ?_, (HBE.out.setCell (by simp) _).alloc (by simp; omega) _⟩
        rw [List.take_add_one, HX.out]
        exact HTAB.out.snoc HPP.out
      case measure => simp [intOf]; omega
    · obtain rfl : k = l.length := by omega
      rw [List.take_length] at HTAB
      clear hk hlt T0 B0
      go_wp2
      go_loopw [22] (fun i w2 => ∃ (k : Nat), k ≤ l.length ∧ i = .int .i64 k ∧ (∀ (m : Nat) (x : In), m < k → l[m]? = some x → ∀ t ∈ x.to, okJ l t = true) ∧ w2.heap[w.heap.size]? = some (.cells C 70 (0, 0)) ∧ Below w.heap.size w w2) (fun i _ => l.length - (intOf i).toNat)
      case atStart => exact ⟨0, Nat.zero_le _, rfl, fun m x hm => by omega, HT.out, HBE.out⟩
      case round =>
        clear HT HBE hsz htl
        obtain ⟨k, hk, rfl, hok, ht, hb⟩ := hrel
        have HT := Lib.hid ht
        have HOK := Lib.hid hok
        have HBE := Lib.hid hb
        have hsz := hb.size
        have htl := lt_of_block ht
        clear ht hok hb
        by_cases hlt : k < l.length
        · have hx := List.getElem?_eq_getElem hlt
          generalize l[k] = x at hx
          obtain ⟨b, o, Ak, ck, At, ct, rfl, hbB, _, hto, c0, c1, c2, c3, c4⟩ := (HR.out.below HBE.out hB).at_ hx
          obtain ⟨_, _, _, hcx, hmx⟩ := hto.form
          unfold maxLen at hmx
          have HTO := Lib.hid hto
          have HX := Lib.hid hx
          have hbw : b < w.heap.size := by omega
          clear hto hx
          go_wp2
          go_loop [29] (fun i => ∃ j : Nat, j ≤ x.to.length ∧ i = .int .i64 j ∧ ∀ (m : Nat) (t : Int), m < j → x.to[m]? = some t → okJ l t = true) (fun i => x.to.length - (intOf i).toNat)
          case atStart => exact ⟨0, Nat.zero_le _, rfl, fun m t hm => by omega⟩
          case round =>
            obtain ⟨j, hj, rfl, hoj⟩ := hrel
            have HOJ := Lib.hid hoj
            clear hoj
            by_cases hjl : j < x.to.length
            · have ht := List.getElem?_eq_getElem hjl
              generalize x.to[j] = t at ht
              obtain ⟨b2, o2, rfl, hb2B, ct0⟩ := HTO.out.at_ ht
              have HTT := Lib.hid ht
              have hb2w : b2 < wr.heap.size := by omega
              clear ht
              by_cases h0 : t < 0
              · have HNO := Lib.hid (okJ_out HP.out (.inl h0))
                go_wp2
                go_ret
                exact ⟨ret_i (jumps_no HX.out (List.mem_of_getElem? HTT.out) HNO.out).symm, HBE.out.alloc hsz _⟩
              · by_cases h1 : 4096 ≤ t
                · have HNO := Lib.hid (okJ_out HP.out (.inr h1))
                  have h0' : 0 ≤ t := by omega
                  clear h0
                  go_wp2
                  go_ret
                  exact ⟨ret_i (jumps_no HX.out (List.mem_of_getElem? HTT.out) HNO.out).symm, HBE.out.alloc hsz _⟩
                · obtain ⟨p, rfl⟩ : ∃ p : Nat, t = p := ⟨t.toNat, by omega⟩
                  have hp4 : p < 4096 := by omega
                  have hcp := (cells_of HT.out p).trans (HTAB.out.2 p hp4)
                  have hfp := free_of HT.out p
                  clear h0 h1
                  obtain ⟨q, hq⟩ : ∃ q, (l.any fun x => x.pc == (p : Int)) = q := ⟨_, rfl⟩
                  rw [hq] at hcp
                  have HQ := Lib.hid (show okJ l p = q from hq)
                  clear hq
                  cases q with
                  | false =>
                    go_wp2
                    go_ret
                    exact ⟨ret_i (jumps_no HX.out (List.mem_of_getElem? HTT.out) HQ.out).symm, HBE.out.alloc hsz _⟩
                  | true =>
                    go_wp2
                    go_round
                    case rel =>
                      refine ⟨j + 1, by omega, by go_num, fun m t hm ht => ?_⟩
                      rcases Nat.lt_or_eq_of_le (Nat.le_of_lt_succ hm) with h | rfl
                      · exact HOJ.out m t h ht
                      · rw [HTT.out] at ht; cases ht; exact HQ.out
                    case measure => simp [intOf]; omega
            · go_wp2
              go_roundw
              case rel =>
                refine ⟨k + 1, by omega, by go_num, fun m y hm hy t ht => ?_, heap_alloc_lt HT.out, HBE.out.alloc hsz _⟩
                rcases Nat.lt_or_eq_of_le (Nat.le_of_lt_succ hm) with h | rfl
                · exact HOK.out m y h hy t ht
                · rw [HX.out] at hy
                  cases hy
                  obtain ⟨n, hn⟩ := List.mem_iff_getElem?.1 ht
                  exact HOJ.out n t (by have := (List.getElem?_eq_some_iff.1 hn).1; omega) hn
              case measure => simp [intOf]; omega
        · obtain rfl : k = l.length := by omega
          obtain ⟨n, hn⟩ : ∃ n, l.length = n + 1 := ⟨l.length - 1, by omega⟩
          have hx := List.getElem?_eq_getElem (show n < l.length by omega)
          generalize l[n] = x at hx
          have hj := jumps_yes fun i x hi => HOK.out i x (List.getElem?_eq_some_iff.1 hi).1 hi
          rw [last_of (x := x) (by rw [hn]; exact hx)] at hj
          obtain ⟨b, o, Ak, ck, At, ct, rfl, hbB, _, _, c0, c1, c2, c3, c4⟩ := (HR.out.below HBE.out hB).at_ hx
          have hbw : b < w.heap.size := by omega
          have HEE := fun W => Lib.hid (ends_any x.op W)
          obtain ⟨q, hq⟩ : ∃ q, endsP x.op = q := ⟨_, rfl⟩
          rw [hq] at hj HEE
          clear hx hq hk hlt HOK HE
          cases q with
          | true =>
            have HJ := Lib.hid hj
            clear hj
            go_wp2_with fail
            refine (HEE _).out.mono ?_
            rintro e w4 ⟨rfl, rfl⟩
            go_wp2
            go_ret
            exact ⟨ret_i (by rw [HJ.out]; rfl), HBE.out⟩
          | false =>
            have HJ := Lib.hid hj
            clear hj
            go_wp2_with fail
            refine (HEE _).out.mono ?_
            rintro e w4 ⟨rfl, rfl⟩
            go_wp2
            go_ret
            exact ⟨ret_i (by rw [HJ.out]; rfl), HBE.out⟩
end Go.Proofs.YtjdaaecbnhcoaaaDoor
