/-
  WALKS: Starts, Back.
-/
import Derived.Test.YtbeelcklbdnjnaaF2
set_option linter.unusedVariables false
set_option linter.unusedSimpArgs false
namespace Go.Proofs.Ytbeelcklbdnjnaa
open Go.RowKit

def i64 (x : Int) : Prop := -9223372036854775808 ≤ x ∧ x ≤ 9223372036854775807
/-- The numbers of handlers are ints. -/
def Hok (hs : List Hd) : Prop := ∀ h ∈ hs, i64 h.frm ∧ i64 h.to ∧ i64 h.at_
theorem put_next {α : Type} {L M : List α} {k : Nat} {u : α} (h : L.take k = M.take k) (hk : k < L.length) (hu : M[k]? = some u) : (L.set k u).take (k + 1) = M.take (k + 1) := by
  rw [List.take_add_one, List.take_add_one, hu, List.getElem?_set_self hk, List.take_set_of_le (Nat.le_refl _), h]
theorem set_row {w : World} {b k : Nat} {L : List Value} {t : TypeId} {u : Value} (h : w.heap[b]? = some (.cells L.toArray t (0, 0))) (hk : k < L.length) : (w.setCell ⟨b, k, none⟩ u).heap[b]? = some (.cells (L.set k u).toArray t (0, 0)) := by
  have := heap_set_eq (i := k) (u := u) h (by simpa using hk)
  rw [this]
  simp
theorem mk3 : (Try.prog.info? 3).map (fun i => (i.zero, i.size, i.bytes)) = some (some (.int .i64 0), 1, 8) := by kernel_rfl
theorem mk4 : (Try.prog.info? 4).map (fun i => (i.zero, i.size, i.bytes)) = some (some (.bool false), 1, 1) := by kernel_rfl
theorem mk34 : (Try.prog.info? 34).map (fun i => (i.zero, i.size, i.bytes)) = some (some (.slice none 0 0), 1, 24) := by kernel_rfl
theorem staL_at {l : List In} {hs : List Hd} {k : Nat} {h : Hd} (hk : hs[k]? = some h) : (icells (staL l hs))[k]? = some (.int .i64 (idxP l h.at_)) := by simp [icells, staL, hk]
theorem staL_len (l : List In) (hs : List Hd) : (staL l hs).length = hs.length := by simp [staL]
set_option maxRecDepth 1000000 in
set_option maxHeartbeats 1600000 in
theorem starts_any (B n : Nat) (l : List In) (hs : List Hd) (v hv : Value) (w : World) (hr : NRow B w v l) (hh : HRow B w hv hs) (hB : B ≤ w.heap.size) (ho : Ord n l) (hn : n ≤ 1000000) (hm : hs.length ≤ 1000000) (hw : Hok hs) :
    Calls Try.prog 16 #[v, hv] w fun e w' => ∃ u, e = .returned u ∧ IOwn w' w.heap.size u (staL l hs) ∧ Below w.heap.size w w' := by
  obtain ⟨A, c, rfl, hc, hml⟩ := hr.form
  obtain ⟨A2, c2, rfl, hc2, hml2⟩ := hh.form
  have HPL := Lib.hid (places_any B n l _ w hr hB ho hn)
  have HH := Lib.hid hh
  have HO := Lib.hid ho
  have HW := Lib.hid hw
  unfold maxLen at hml hml2
  clear hr ho hh hw
  go_enter Try.func16, Try.ntmps16
  go_wp2_with fail
  refine HPL.out.mono ?_
  rintro e w1 ⟨mb, rfl, hmb, hp1, hb1⟩
  have hsz1 := hb1.size
  have HP1 := Lib.hid hp1
  have HB1 := Lib.hid hb1
  have hml1 := hp1.lt
  obtain ⟨w2, hmk, hrow, hb2⟩ := make_row w1 34 3 (.int .i64 0) 8 hs.length (by kernel_rfl) mk3 rfl hm (by omega)
  have hsl := lt_of_block hrow
  have HR2 := Lib.hid hrow
  have HP2 := Lib.hid (hp1.below hb2 hml1)
  have HB2 := Lib.hid (Below.link hb1 hb2)
  clear hp1 hb1 hrow hb2 HPL
  go_wp2
  clear hmk
  go_loopw [15] (fun i wr => ∃ (k : Nat) (L : List Value), k ≤ hs.length ∧ i = .int .i64 k ∧ L.length = hs.length ∧ L.take k = (icells (staL l hs)).take k ∧ wr.heap[w1.heap.size]? = some (.cells L.toArray 3 (0, 0)) ∧ PMap mb l wr ∧ Below w.heap.size w wr) (fun i _ => hs.length - (intOf i).toNat)
  case atStart => exact ⟨0, _, Nat.zero_le _, rfl, by simp, by simp, HR2.out, HP2.out, HB2.out⟩
  case round =>
    clear HR2 HP2 HB2
    obtain ⟨k, L, hk, rfl, hL, htk, hrow, hp, hb⟩ := hrel
    have HROW := Lib.hid hrow
    have HTK := Lib.hid htk
    have HP := Lib.hid hp
    have HBE := Lib.hid hb
    have hsz := hb.size
    have hsl2 := lt_of_block hrow
    clear hp hb htk
    by_cases hlt : k < hs.length
    · have hx := List.getElem?_eq_getElem hlt
      generalize hs[k] = x at hx
      obtain ⟨b, o, rfl, hbB, c0, c1, c2, c3⟩ := (HH.out.below HBE.out hB).at_ hx
      have HX := Lib.hid hx
      have hwx := (HW.out x (List.mem_of_getElem? hx)).2.2
      have HI := fun W (hW : PMap mb l W) => Lib.hid (index_any mb l x.at_ W hW hwx.1 hwx.2)
      have cc := cells_of hrow k
      have ff := free_of hrow
      obtain ⟨y, hy⟩ : ∃ y, L[k]? = some y := ⟨_, List.getElem?_eq_getElem (by omega)⟩
      rw [List.getElem?_toArray, hy] at cc
      have hbw : b < wr.heap.size := by omega
      clear hx hwx hrow hy
      go_wp2_with (first | (go_at_call 29; refine (HI _ HP.out).out.mono ?_; rintro e w4 ⟨rfl, rfl⟩))
      go_roundw
      case rel =>
        refine ⟨k + 1, _, by omega, by go_num, by rw [List.length_set]; exact hL, put_next HTK.out (by omega) (staL_at HX.out), set_row HROW.out (by omega), ?_, HBE.out.setCell (by simp; omega) _⟩
        exact PMapN.stay HP.out (Below.heap_setCell _ _ _ _ (by simp; omega))
      case measure => simp [intOf]; omega
    · obtain rfl : k = hs.length := by omega
      go_wp2
      go_ret
      refine ⟨_, rfl, ?_, HBE.out⟩
      have e1 : L = icells (staL l hs) := by
        have := HTK.out
        rwa [List.take_of_length_le (by omega), List.take_of_length_le (by rw [icells_length, staL_len]; exact Nat.le_refl _)] at this
      subst e1
      unfold IOwn
      rw [staL_len]
      exact own_new HROW.out (by omega) (by simp [icells_length, staL_len]) (by unfold maxLen; omega)
/-- Whether an instruction jumps back. -/
def backP (x : In) : Bool := x.to.any fun t => decide (t ≤ x.pc)
def backL (l : List In) : List Bool := l.map backP
theorem any_step {α : Type} {g : α → Bool} {l : List α} {k : Nat} {x : α} (hx : l[k]? = some x) : (l.take (k + 1)).any g = ((l.take k).any g || g x) := by
  obtain ⟨hk, rfl⟩ := List.getElem?_eq_some_iff.1 hx
  rw [List.take_succ_eq_append_getElem hk, List.any_append]
  simp
set_option maxRecDepth 1000000 in
set_option maxHeartbeats 1600000 in
theorem back_any (B : Nat) (l : List In) (v : Value) (w : World) (hr : NRow B w v l) (hB : B ≤ w.heap.size) (hm : l.length ≤ 1000000) :
    Calls Try.prog 21 #[v] w fun e w' => ∃ u, e = .returned u ∧ w'.ownsRow w.heap.size 4 1 u l.length (bcells (backL l)) ∧ Below w.heap.size w w' := by
  obtain ⟨A, c, rfl, hc, hml⟩ := hr.form
  have HR := Lib.hid hr
  unfold maxLen at hml
  obtain ⟨w2, hmk, hrow, hb2⟩ := make_row w 36 4 (.bool false) 1 l.length (by kernel_rfl) mk4 rfl hm (by omega)
  have HR2 := Lib.hid hrow
  have HB2 := Lib.hid hb2
  clear hr hrow hb2
  go_enter Try.func21, Try.ntmps21
  go_wp2
  clear hmk
  go_loopw [13] (fun i wr => ∃ (k : Nat) (L : List Value), k ≤ l.length ∧ i = .int .i64 k ∧ L.length = l.length ∧ L.take k = (bcells (backL l)).take k ∧ (∀ j, k ≤ j → j < l.length → L[j]? = some (.bool false)) ∧ wr.heap[w.heap.size]? = some (.cells L.toArray 4 (0, 0)) ∧ Below w.heap.size w wr) (fun i _ => l.length - (intOf i).toNat)
  case atStart => exact ⟨0, _, Nat.zero_le _, rfl, by simp, by simp, fun j _ hj => by simp [hj], HR2.out, HB2.out⟩
  case round =>
    clear HR2 HB2
    obtain ⟨k, L, hk, rfl, hL, htk, hfa, hrow, hb⟩ := hrel
    have HROW := Lib.hid hrow
    have HTK := Lib.hid htk
    have HFA := Lib.hid hfa
    have HBE := Lib.hid hb
    have hsz := hb.size
    have hsl2 := lt_of_block hrow
    clear hb htk hfa hrow
    by_cases hlt : k < l.length
    · have hx := List.getElem?_eq_getElem hlt
      generalize l[k] = x at hx
      obtain ⟨b, o, Ak, ck, At, ct, rfl, hbB, hk2, hto, c0, c1, c2, c3, c4⟩ := (HR.out.below HBE.out hB).at_ hx
      have HX := Lib.hid hx
      have HTO := Lib.hid hto
      obtain ⟨_, _, _, hcx, hmx⟩ := hto.form
      unfold maxLen at hmx
      have hbw : b < wr.heap.size := by omega
      clear hx hto hk2
      go_wp2
      obtain ⟨wo, hwo⟩ : ∃ wo, wo = wr := ⟨_, rfl⟩
      subst hwo
      go_loopw [21] (fun i w3 => ∃ (j : Nat) (L2 : List Value), j ≤ x.to.length ∧ i = .int .i64 j ∧ L2 = L.set k (.bool ((x.to.take j).any fun t => decide (t ≤ x.pc))) ∧ w3.heap[w.heap.size]? = some (.cells L2.toArray 4 (0, 0)) ∧ w3.heap[wo.heap.size]? = some (.cells #[.int .i64 x.pc, .int .i64 x.op, .int .i64 x.n, .slice Ak x.keys.length ck, .slice At x.to.length ct] 44 (0, 0)) ∧ Below w.heap.size w w3 ∧ w3.heap.size = wo.heap.size + 1 ∧ IRow B w3 (.slice At x.to.length ct) x.to) (fun i _ => x.to.length - (intOf i).toNat)
      case atStart =>
        have e0 : L = L.set k (.bool false) := by
          apply List.ext_getElem?
          intro m
          by_cases e : k = m
          · subst e
            rw [List.getElem?_set_self (by omega), HFA.out k (Nat.le_refl _) hlt]
          · rw [List.getElem?_set_ne e]
        exact ⟨0, L, Nat.zero_le _, rfl, by simpa using e0, heap_alloc_lt HROW.out, heap_new _ _, HBE.out.alloc hsz _, by simp, Row.keep HTO.out fun p hp => World.cell?_alloc_lt _ _ p (by omega)⟩
      case round =>
        obtain ⟨j, L2, hj, rfl, hL2, hro2, hcp, hb2, hz2, hto2⟩ := hrel
        have HL2 := Lib.hid hL2
        have HRO2 := Lib.hid hro2
        have HCP := Lib.hid hcp
        have HBE2 := Lib.hid hb2
        have HTO2 := Lib.hid hto2
        have hk2 : L2.length = l.length := by rw [hL2, List.length_set]; exact hL
        have hsl3 := lt_of_block hro2
        have hsl4 := lt_of_block hcp
        clear hb2 hL2
        by_cases hjl : j < x.to.length
        · have ht := List.getElem?_eq_getElem hjl
          generalize x.to[j] = t at ht
          obtain ⟨b2, o2, rfl, hb2B, ct0⟩ := HTO2.out.at_ ht
          have HAN := Lib.hid (any_step (g := fun t => decide (t ≤ x.pc)) ht)
          have p0 := cells_of hcp 0
          simp at p0
          have cc := cells_of hro2 k
          have ff := free_of hro2
          have hg : L2[k]? = some (.bool ((x.to.take j).any fun t => decide (t ≤ x.pc))) := by rw [HL2.out, List.getElem?_set_self (by omega)]
          rw [List.getElem?_toArray, hg] at cc
          have hset : ∀ q : Bool, L2.set k (.bool q) = L.set k (.bool q) := fun q => by rw [HL2.out, List.set_set]
          have HSET := Lib.hid hset
          obtain ⟨q, hq⟩ : ∃ q, ((x.to.take j).any fun t => decide (t ≤ x.pc)) = q := ⟨_, rfl⟩
          rw [hq] at HAN cc
          have hb2w : b2 < wr.heap.size := by omega
          clear ht hro2 hcp hto2 hg hq hset
          have fin : ∀ (r : Bool), (q || decide (t ≤ x.pc)) = r → ∃ (j2 : Nat) (L3 : List Value), j2 ≤ x.to.length ∧ (Value.int .i64 ((j : Int) + 1)) = .int .i64 j2 ∧ L3 = L.set k (.bool ((x.to.take j2).any fun t => decide (t ≤ x.pc))) ∧ (wr.setCell ⟨w.heap.size, k, none⟩ (.bool r)).heap[w.heap.size]? = some (.cells L3.toArray 4 (0, 0)) ∧ (wr.setCell ⟨w.heap.size, k, none⟩ (.bool r)).heap[wo.heap.size]? = some (.cells #[.int .i64 x.pc, .int .i64 x.op, .int .i64 x.n, .slice Ak x.keys.length ck, .slice (some ⟨b2, o2, none⟩) x.to.length ct] 44 (0, 0)) ∧ Below w.heap.size w (wr.setCell ⟨w.heap.size, k, none⟩ (.bool r)) ∧ (wr.setCell ⟨w.heap.size, k, none⟩ (.bool r)).heap.size = wo.heap.size + 1 ∧ IRow B (wr.setCell ⟨w.heap.size, k, none⟩ (.bool r)) (.slice (some ⟨b2, o2, none⟩) x.to.length ct) x.to := fun r hr => by
            refine ⟨j + 1, _, by omega, by simp, rfl, ?_, heap_set_ne (by simp; omega) HCP.out, HBE2.out.setCell (by simp) _, by simpa using hz2, ?_⟩
            · rw [HAN.out, hr, ← HSET.out]
              exact set_row HRO2.out (by omega)
            · exact IRow.below HTO2.out (B' := w.heap.size) (Below.setCell (Below.refl _ _) (by simp) _) hB
          have FIN := Lib.hid fin
          clear fin
          cases q with
          | true =>
            go_wp2
            go_roundw
            case rel => exact FIN.out true rfl
            case measure => simp [intOf]; omega
          | false =>
            by_cases hle : t ≤ x.pc
            · have FI := Lib.hid (FIN.out true (by simpa using hle))
              clear FIN
              go_wp2
              go_roundw
              case rel => exact FI.out
              case measure => simp [intOf]; omega
            · have FI := Lib.hid (FIN.out (decide (t ≤ x.pc)) (Bool.false_or _))
              have hle2 : x.pc < t := by omega
              clear FIN hle
              go_wp2
              go_roundw
              case rel => exact FI.out
              case measure => simp [intOf]; omega
        · obtain rfl : j = x.to.length := by omega
          rw [List.take_length] at HL2
          go_wp2
          go_roundw
          case rel =>
            refine ⟨k + 1, L2, by omega, by go_num, hk2, ?_, fun m hm1 hm2 => ?_, HRO2.out, HBE2.out⟩
            · rw [HL2.out]
              exact put_next HTK.out (by omega) (by simp [bcells, backL, HX.out, backP])
            · rw [HL2.out, List.getElem?_set_ne (by omega)]
              exact HFA.out m (by omega) hm2
          case measure => simp [intOf]; omega
    · obtain rfl : k = l.length := by omega
      go_wp2
      go_ret
      refine ⟨_, rfl, ?_, HBE.out⟩
      have e1 : L = bcells (backL l) := by
        have := HTK.out
        rwa [List.take_of_length_le (by omega), List.take_of_length_le (by simp [bcells, backL])] at this
      subst e1
      exact own_new HROW.out (Nat.le_refl _) (by simp [bcells, backL]) (by unfold maxLen; omega)
end Go.Proofs.Ytbeelcklbdnjnaa
