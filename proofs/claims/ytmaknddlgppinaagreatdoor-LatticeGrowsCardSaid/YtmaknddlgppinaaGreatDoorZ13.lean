/-
  CUT and joined from the texts of this seat: Im
-/
import Derived.Test.YtmaknddlgppinaaGreatDoorZ11
import Derived.Test.YtmaknddlgppinaaGreatDoorZ12
import Derived.Deep.RegionHeld3
import Derived.StillTailTactics
import Derived.Laws.StructEq
set_option linter.unusedVariables false
set_option linter.unusedSimpArgs false
namespace Go.Proofs.YtmaknddlgppinaaGreatDoor
open Go.RowKit
section
variable {B tb mb cap ow : Nat} {A : Option Addr} {cs : List PC} {cl sl : Nat → Nat} {S : Nat → List Nat}
/-- has: whether a type is there. -/
theorem has_true {w0 w : World} (h : HT B tb mb A cap ow cs cl sl S w0) (hb : Below w0.heap.size w0 w) {d : Int} {s : ByteArray} (hs : s.size ≤ maxLen) {b : Bool} (hh : b = true ↔ hasT cs (d, s.data.toList)) :
  Calls Tryz.prog 65 #[.pointer (some ⟨tb, 0, none⟩), .agg #[.int .i64 d, .string s]] w fun e w' => e = .returned (.bool b) ∧ Below w.heap.size w w' := by
 have h' := h.below (hb.mono h.hB)
 have c1 : w.cell? ⟨tb, 1, none⟩ = some (.map (some mb)) := by rw [kcells_of h'.t0]; rfl
 refine (has_named h'.map c1 d s hs).mono ?_
 rintro e w' ⟨rfl, hb⟩
 refine ⟨?_, hb⟩
 congr 2
 rw [Bool.eq_iff_iff, hh, decide_eq_true_eq, Lib.toList_data]
 unfold hasT
 rw [Option.isSome_iff_ne_none]
theorem beq_str (s t : ByteArray) : (s.toList == t.toList) = decide (s = t) := by
 rw [Bool.eq_iff_iff, Lib.toList_data, Lib.toList_data]
 simp only [beq_iff_eq, decide_eq_true_eq]
 exact ⟨fun h => by cases s; cases t; simp only at h; congr 1; exact Array.toList_inj.1 h, fun h => by rw [h]⟩
theorem eq31 (d d' : Int) (s s' : ByteArray) (w : World) : (Op.equalIn 10000 31 (.agg #[.int .i64 d, .string s]) (.agg #[.int .i64 d', .string s'])).run Tryz.prog w = .ok (decide (d = d' ∧ s = s')) w := by
 have u3 := Tryz.underlying3
 have a3 := Tryz.isAgg3
 have z3 := Tryz.sizeOf3
 have u9 := Tryz.underlying9
 have a9 := Tryz.isAgg9
 have z9 := Tryz.sizeOf9
 have hS : Tryz.prog.underlying 31 = some (.struct (Tryz.prog.fieldsOf 31)) := by kernel_rfl
 rw [show (10000 : Nat) = 9999 + 1 from rfl, run_equalIn_agg w 9999 31 _ _ hS (by kernel_rfl)]
 simp only [Program.fieldsOf, Tryz.underlying31]
 have hb := beq_str s s'
 go_simp
 by_cases h1 : d = d' <;> by_cases h2 : s = s' <;> simp [h1, h2, hb]
theorem eql31 (d d' : Int) (s s' : ByteArray) (w : World) : (binOp .eql 31 (.agg #[.int .i64 d, .string s]) (.agg #[.int .i64 d', .string s'])).run Tryz.prog w = .ok (.bool (decide (d = d' ∧ s = s'))) w := by
 have h : (Op.equal 31 (.agg #[.int .i64 d, .string s]) (.agg #[.int .i64 d', .string s'])).run Tryz.prog w = .ok (decide (d = d' ∧ s = s')) w := eq31 d d' s s' w
 simp only [binOp]
 simp [h]
/-- The two types, boxed. -/
structure Two (w0 : World) (da db : Int) (sa sb : ByteArray) (w : World) : Prop where
 a0 : w.cell? ⟨w0.heap.size, 0, none⟩ = some (.int .i64 da)
 a1 : w.cell? ⟨w0.heap.size, 1, none⟩ = some (.string sa)
 b0 : w.cell? ⟨w0.heap.size + 1, 0, none⟩ = some (.int .i64 db)
 b1 : w.cell? ⟨w0.heap.size + 1, 1, none⟩ = some (.string sb)
 below : Below w0.heap.size w0 w
 sz : w0.heap.size + 2 ≤ w.heap.size
theorem Two.start (w : World) (da db : Int) (sa sb : ByteArray) : Two w da db sa sb ((w.alloc (.cells #[.int .i64 da, .string sa] 31)).alloc (.cells #[.int .i64 db, .string sb] 31)) := by
 have h1 : ((w.alloc (.cells #[.int .i64 da, .string sa] 31)).alloc (.cells #[.int .i64 db, .string sb] 31)).heap[w.heap.size]? = some (.cells #[.int .i64 da, .string sa] 31 (0, 0)) := hheap_alloc_lt (hheap_new w _)
 have h2 : ((w.alloc (.cells #[.int .i64 da, .string sa] 31)).alloc (.cells #[.int .i64 db, .string sb] 31)).heap[w.heap.size + 1]? = some (.cells #[.int .i64 db, .string sb] 31 (0, 0)) := hheap_at _ _ _ (by simp)
 exact ⟨kcells_of h1 0, kcells_of h1 1, kcells_of h2 0, kcells_of h2 1, ((Below.refl _ _).alloc (Nat.le_refl _) _).alloc (by simp) _, by simp⟩
theorem Two.next {w0 w w' : World} {da db : Int} {sa sb : ByteArray} (h : Two w0 da db sa sb w) (hb : Below w.heap.size w w') : Two w0 da db sa sb w' := by
 have hz := h.sz
 exact ⟨(hb.cell (p := ⟨w0.heap.size, 0, none⟩) (by show w0.heap.size < _; omega)).trans h.a0, (hb.cell (p := ⟨w0.heap.size, 1, none⟩) (by show w0.heap.size < _; omega)).trans h.a1, (hb.cell (p := ⟨w0.heap.size + 1, 0, none⟩) (by show w0.heap.size + 1 < _; omega)).trans h.b0, (hb.cell (p := ⟨w0.heap.size + 1, 1, none⟩) (by show w0.heap.size + 1 < _; omega)).trans h.b1, h.below.trans (hb.mono (by omega)), Nat.le_trans hz hb.size⟩
/-- The answer of Sub. -/
def SubAns (cs : List PC) (a b : TY) (w w' : World) (e : Ending) : Prop := ∃ r : Bool, e = .returned (.bool r) ∧ (r = true ↔ SubT cs a b) ∧ Below w.heap.size w w'
set_option maxRecDepth 1000000 in
set_option maxHeartbeats 6400000 in
theorem Sub_step {da db : Int} {sa sb : ByteArray} {w : World} (h : HT B tb mb A cap ow cs cl sl S w) (hsa : sa.size ≤ 1000000) (hsb : sb.size ≤ 1000000)
    (IH : hasT cs (da, sa.data.toList) → hasT cs (db, sb.data.toList) → 0 < da → 0 < db → ∀ W, HT B tb mb A cap ow cs cl sl S W → Calls Tryz.prog 23 #[.pointer (some ⟨tb, 0, none⟩), .agg #[.int .i64 (da - 1), .string sa], .agg #[.int .i64 (db - 1), .string sb]] W (fun e w' => SubAns cs (da - 1, sa.data.toList) (db - 1, sb.data.toList) W w' e)) :
    Calls Tryz.prog 23 #[.pointer (some ⟨tb, 0, none⟩), .agg #[.int .i64 da, .string sa], .agg #[.int .i64 db, .string sb]] w fun e w' => SubAns cs (da, sa.data.toList) (db, sb.data.toList) w w' e := by
  have H := Lib.hid h
  have IHH := Lib.hid IH
  have htl := lt_of_block h.t0
  have hsm : (1000000 : Nat) ≤ maxLen := by unfold maxLen; omega
  have HA := Lib.hid (fun b hh W hb => has_true (w := W) h hb (d := da) (s := sa) (by omega) (b := b) hh)
  have HBB := Lib.hid (fun b hh W hb => has_true (w := W) h hb (d := db) (s := sb) (by omega) (b := b) hh)
  have G := h.good
  have TW := Lib.hid (Two.start w da db sa sb)
  clear h IH
  by_cases ha : hasT cs (da, sa.data.toList)
  · have HAt := Lib.hid (fun W hb => HA.out true (by simp [ha]) W hb)
    by_cases hb : hasT cs (db, sb.data.toList)
    · have HBt := Lib.hid (fun W hb' => HBB.out true (by simp [hb]) W hb')
      go_enter Tryz.func23, Tryz.ntmps23
      go_wp2_with fail
      refine (HAt.out _ TW.out.below).mono ?_
      rintro e w1 ⟨rfl, hb1⟩
      have TW1 := Lib.hid (TW.out.next hb1)
      clear hb1
      have e0 := TW1.out.b0
      have e1 := TW1.out.b1
      go_wp2_with fail
      refine (HBt.out _ TW1.out.below).mono ?_
      rintro e w2 ⟨rfl, hb2⟩
      have TW2 := Lib.hid (TW1.out.next hb2)
      clear hb2 e0 e1
      have a0 := TW2.out.a0
      have a1 := TW2.out.a1
      have b0 := TW2.out.b0
      have b1 := TW2.out.b1
      have hst : ∀ {s t : ByteArray}, s = t ↔ s.data.toList = t.data.toList := fun {s t} => ⟨fun h => by rw [h], fun h => by cases s; cases t; simp only at h; congr 1; exact Array.toList_inj.1 h⟩
      go_upto_region 3 with fail
      go_cut [18] (fun v wx => v = .bool (decide (da = db ∧ sa = sb)) ∧ wx = w2)
      case first =>
        by_cases h1 : da = db
        · subst h1
          by_cases h2 : sa = sb
          · subst h2
            go_wp2
            go_meet
            case rel => exact ⟨by simp, rfl⟩
          · have h3 : ¬ sa.toList = sb.toList := fun h => h2 (hst.2 (by rw [← Lib.toList_data, ← Lib.toList_data, h]))
            have h4 : (sa.toList == sb.toList) = false := by simpa using h3
            have H2 := Lib.hid h2
            clear h2
            go_wp2
            go_meet
            case rel => exact ⟨by simp [H2.out], rfl⟩
        · have H1 := Lib.hid h1
          have h4 : (da == db) = false := by simpa using h1
          go_wp2
          go_meet
          case rel => exact ⟨by simp [H1.out], rfl⟩
      obtain ⟨rfl, rfl⟩ := hcut
      by_cases heq : da = db ∧ sa = sb
      · have HE := Lib.hid heq
        rw [decide_eq_true heq]
        clear heq
        go_wp2
        go_ret
        obtain ⟨rfl, rfl⟩ := HE.out
        exact ⟨true, rfl, ⟨fun _ => sub_eq G ha, fun _ => rfl⟩, TW2.out.below⟩
      · have hne : (da, sa.data.toList) ≠ (db, sb.data.toList) := fun h => heq (by injection h with h1 h2; exact ⟨h1, hst.2 h2⟩)
        have HE := Lib.hid hne
        rw [decide_eq_false heq]
        clear heq hne
        have IA := Lib.hid (fun W => isInt_any da sa W)
        have IB := Lib.hid (fun W => isInt_any db sb W)
        go_upto_region 5 with fail
        go_cut [22] (fun v wx => v = .bool (decide (da = 0 ∧ sa.toList = []) || decide (db = 0 ∧ sb.toList = [])) ∧ Two w da db sa sb wx)
        case first =>
          cases hia : decide (da = 0 ∧ sa.toList = []) with
          | true =>
            rw [hia] at IA
            have HIA := Lib.hid hia
            clear hia
            go_wp2_with fail
            refine (IA.out _).mono ?_
            rintro e w3 ⟨rfl, hb3⟩
            have T3 := Lib.hid (TW2.out.next hb3)
            clear hb3
            go_wp2
            go_meet
            case rel => exact ⟨by rw [HIA.out]; rfl, T3.out⟩
          | false =>
            rw [hia] at IA
            have HIA := Lib.hid hia
            clear hia
            go_wp2_with fail
            refine (IA.out _).mono ?_
            rintro e w3 ⟨rfl, hb3⟩
            have T3 := Lib.hid (TW2.out.next hb3)
            clear hb3 a0 a1 b0 b1
            have b0 := T3.out.b0
            have b1 := T3.out.b1
            go_wp2_with fail
            refine (IB.out _).mono ?_
            rintro e w4 ⟨rfl, hb4⟩
            have T4 := Lib.hid (T3.out.next hb4)
            clear hb4
            go_wp2
            go_meet
            case rel => exact ⟨by rw [HIA.out, Bool.false_or, Bool.decide_and], T4.out⟩
        obtain ⟨rfl, ht⟩ := hcut
        have TW3 := Lib.hid ht
        clear ht
        by_cases hint : (decide (da = 0 ∧ sa.toList = []) || decide (db = 0 ∧ sb.toList = [])) = true
        · rw [hint]
          have HI := Lib.hid hint
          clear hint
          go_wp2
          go_ret
          refine ⟨false, rfl, ⟨fun h => (by cases h), fun h => absurd h (sub_int G ha hb HE.out ?_)⟩, TW3.out.below⟩
          have := HI.out
          simp only [Bool.or_eq_true, decide_eq_true_eq] at this
          rcases this with ⟨h1, h2⟩ | ⟨h1, h2⟩
          · left; rw [h1, ← Lib.toList_data, h2]; rfl
          · right; rw [h1, ← Lib.toList_data, h2]; rfl
        · have HI := Lib.hid hint
          rw [Bool.eq_false_iff.2 hint]
          have TO := Lib.hid (fun W => typeObject_any W)
          clear hint
          have b0 := TW3.out.b0
          have b1 := TW3.out.b1
          have heq := eql31 db 0 sb ⟨#[79, 98, 106, 101, 99, 116]⟩
          go_upto_region 7 with fail
          go_cut [29] (fun v wx => v = .bool (decide (db = 0) && decide (sb.data.toList = [79, 98, 106, 101, 99, 116])) ∧ Two w da db sa sb wx)
          case first =>
            go_region_held3 (fun w' => w'.cell? ⟨w.heap.size + 1, 0, none⟩ = some (.int .i64 db) ∧ w'.cell? ⟨w.heap.size + 1, 1, none⟩ = some (.string sb))
              (first
                | exact ⟨b0, b1⟩
                | exact ⟨T7.out.b0, T7.out.b1⟩)
              ((go_at_call 69; refine (TO.out _).mono ?_; rintro e wi ⟨rfl, hbi⟩; have T7 := Lib.hid (TW3.out.next (w' := wi) ⟨hbi.os, hbi.tape, hbi.output, hbi.size, hbi.block⟩)))
            all_goals (try go_wp2)
            all_goals (go_meet; case rel => exact ⟨rfl, T7.out.next (Below.refl _ _)⟩)
          obtain ⟨rfl, ht⟩ := hcut
          have TW4 := Lib.hid ht
          clear ht heq b0 b1
          have hia := HI.out
          simp only [Bool.or_eq_true, decide_eq_true_eq, not_or] at hia
          have NA := Lib.hid (show (da, sa.data.toList) ≠ intT from fun h => hia.1 (by injection h with h1 h2; exact ⟨h1, by rw [Lib.toList_data]; exact h2⟩))
          have NB := Lib.hid (show (db, sb.data.toList) ≠ intT from fun h => hia.2 (by injection h with h1 h2; exact ⟨h1, by rw [Lib.toList_data]; exact h2⟩))
          clear hia
          by_cases hob : (decide (db = 0) && decide (sb.data.toList = [79, 98, 106, 101, 99, 116])) = true
          · rw [hob]
            have HO := Lib.hid hob
            clear hob
            go_wp2
            go_ret
            have := HO.out
            simp only [Bool.and_eq_true, decide_eq_true_eq] at this
            refine ⟨true, rfl, ⟨fun _ => ?_, fun _ => rfl⟩, TW4.out.below⟩
            rw [this.1, this.2]
            exact sub_obj G ha NA.out
          · have HO := Lib.hid (show (db, sb.data.toList) ≠ objT from fun h => hob (by injection h with h1 h2; rw [h1, h2]; rfl))
            rw [Bool.eq_false_iff.2 hob]
            clear hob
            have a0 := TW4.out.a0
            have a1 := TW4.out.a1
            have b0 := TW4.out.b0
            have b1 := TW4.out.b1
            by_cases hdd : 0 < da ∧ 0 < db
            · obtain ⟨hda, hdb⟩ := hdd
              go_upto_region 10 with fail
              have hda4 : da ≤ 4 := ha.2.1
              have hdb4 : db ≤ 4 := hb.2.1
              have hda0 : -1000000 ≤ da := by omega
              have hdb0 : -1000000 ≤ db := by omega
              go_region_held3 (fun w' => w'.cell? ⟨w.heap.size, 0, none⟩ = some (.int .i64 da) ∧ w'.cell? ⟨w.heap.size, 1, none⟩ = some (.string sa) ∧ w'.cell? ⟨w.heap.size + 1, 0, none⟩ = some (.int .i64 db) ∧ w'.cell? ⟨w.heap.size + 1, 1, none⟩ = some (.string sb))
                (first
                  | exact ⟨a0, a1, b0, b1⟩
                  | exact ⟨T9.out.a0, T9.out.a1, T9.out.b0, T9.out.b1⟩
                  | exact ⟨T8.out.a0, T8.out.a1, T8.out.b0, T8.out.b1⟩
                  | exact ⟨T7.out.a0, T7.out.a1, T7.out.b0, T7.out.b1⟩)
                (first
                  | (go_at_call 67
                     refine (element_any _ _ (by omega) (by omega) _).mono ?_
                     rintro e wi ⟨rfl, hbi⟩
                     first
                       | have T8 := Lib.hid (T7.out.next (w' := wi) ⟨hbi.os, hbi.tape, hbi.output, hbi.size, hbi.block⟩)
                       | have T7 := Lib.hid (TW4.out.next (w' := wi) ⟨hbi.os, hbi.tape, hbi.output, hbi.size, hbi.block⟩)
                     clear hbi)
                  | (go_at_call 23
                     refine (IHH.out ha hb hda hdb _ (by first | exact H.out.below ((T8.out.next (Below.refl _ _).drew).below.mono H.out.hB) | exact H.out.below (T8.out.below.mono H.out.hB))).mono ?_
                     rintro e wj ⟨r, rfl, hr, hbj⟩
                     have T9 := Lib.hid (T8.out.next (w' := wj) ⟨hbj.os, hbj.tape, hbj.output, hbj.size, hbj.block⟩)
                     have HR := Lib.hid hr
                     clear hr hbj))
              go_wp2
              go_ret
              exact ⟨r, rfl, by rw [HR.out]; exact (sub_elem G ha hb hda hdb).symm, T9.out.below⟩
            · have hda0 : 0 ≤ da := ha.1
              have hdb0 : 0 ≤ db := hb.1
              by_cases hz : da = 0 ∧ db = 0
              · obtain ⟨rfl, rfl⟩ := hz
                have hsa0 : sa.data.toList ≠ [] := fun h => NA.out (by rw [h]; rfl)
                have hsb0 : sb.data.toList ≠ [] := fun h => NB.out (by rw [h]; rfl)
                obtain ⟨i, hi⟩ := Option.ne_none_iff_exists'.1 (ha.2.2.resolve_left hsa0)
                obtain ⟨j, hj⟩ := Option.ne_none_iff_exists'.1 (hb.2.2.resolve_left hsb0)
                have hW := H.out.below (TW4.out.below.mono H.out.hB)
                obtain ⟨ci, hci, _⟩ := ix_some hi
                obtain ⟨cj, hcj, _⟩ := ix_some hj
                obtain ⟨k, k1, k2, k3, k4, k5, k6⟩ := hW.cls hci
                obtain ⟨l, l1, l2, l3, l4, l5, l6⟩ := hW.cls hcj
                have hjl := ix_lt hj
                have hfew := hW.tab.few
                have hun := under_any (w := wc.drew) k1 l1 k5 ⟨k6.row, k6.word, k6.few⟩ (by omega)
                rw [l3] at hun
                have HUN := Lib.hid hun
                have hex := hW.exact i (ix_lt hi) j
                have HEX := Lib.hid hex
                have HI1 := Lib.hid hi
                have HJ1 := Lib.hid hj
                have m1 : wc.cell? ⟨tb, 1, none⟩ = some (.map (some mb)) := by rw [kcells_of hW.t0]; rfl
                have lka : (Instr.lookup 110 (.map (some mb)) (.string sa) false).run Tryz.prog wc.drew = .ok (.pointer (some ⟨cl i, 0, none⟩)) wc.drew := by
                  have := (hW.map.same (w' := wc.drew) rfl).look sa (by omega)
                  rw [hi] at this
                  exact this
                have lkb : (Instr.lookup 110 (.map (some mb)) (.string sb) false).run Tryz.prog wc.drew = .ok (.pointer (some ⟨cl j, 0, none⟩)) wc.drew := by
                  have := (hW.map.same (w' := wc.drew) rfl).look sb (by omega)
                  rw [hj] at this
                  exact this
                generalize bit (S i) j = Bt at hun HUN hex HEX
                clear hW hci hcj k1 k2 k3 k4 k5 k6 l1 l2 l3 l4 l5 l6 hun hex hi hj hdd
                go_upto_region 12 with fail
                refine wp_region_still_tail 14 (by kernel_rfl) (by kernel_rfl) ?_
                change wpStill _ _ wc.drew _ _ _
                simp only [List.take_succ_cons, List.take_zero, List.drop_succ_cons, List.drop_zero]
                repeat still_step
                refine wpStill_nil ?_
                change wpList _ _ _ _ _ wc.drew
                go_wp2_with fail
                refine HUN.out.mono ?_
                rintro e w5 ⟨rfl, m, rfl⟩
                go_wp2
                go_ret
                refine ⟨Bt, rfl, ?_, (show Below w.heap.size w (wc.drewN (1 + m)) from (TW4.out.next (w' := wc.drewN (1 + m)) ⟨rfl, rfl, rfl, Nat.le_refl _, fun _ _ => rfl⟩).below)⟩
                rw [HEX.out, sub_class G ha hb rfl rfl HE.out NA.out NB.out]
                constructor
                · intro h
                  exact ⟨i, j, HI1.out, HJ1.out, h⟩
                · rintro ⟨i', j', h1, h2, h3⟩
                  rw [HI1.out] at h1
                  rw [HJ1.out] at h2
                  cases h1
                  cases h2
                  exact h3
              · have HM := Lib.hid (sub_mixed G ha hb HO.out (by simpa using hdd) (by simpa using hz))
                by_cases hd0 : da = 0
                · subst hd0
                  have hdb1 : 0 < db := by omega
                  have hdb2 : (db == 0) = false := by simp; omega
                  clear hdd hz
                  go_wp2
                  go_ret
                  exact ⟨false, rfl, ⟨fun h => (by cases h), fun h => absurd h HM.out⟩, TW4.out.below⟩
                · have hd1 : 0 < da := by omega
                  have hd2 : (da == 0) = false := by simp; omega
                  have hd3 : ¬ 0 < db := fun h => hdd ⟨hd1, h⟩
                  clear hdd hz
                  go_wp2
                  go_ret
                  exact ⟨false, rfl, ⟨fun h => (by cases h), fun h => absurd h HM.out⟩, TW4.out.below⟩
    · have HBt := Lib.hid (fun W hb' => HBB.out false (by simp [hb]) W hb')
      have HN := Lib.hid (sub_no G (a := (da, sa.data.toList)) (b := (db, sb.data.toList)) (fun h => hb h.2))
      go_enter Tryz.func23, Tryz.ntmps23
      go_wp2_with fail
      refine (HAt.out _ TW.out.below).mono ?_
      rintro e w1 ⟨rfl, hb1⟩
      have TW1 := Lib.hid (TW.out.next hb1)
      clear hb1
      have e0 := TW1.out.b0
      have e1 := TW1.out.b1
      go_wp2_with fail
      refine (HBt.out _ TW1.out.below).mono ?_
      rintro e w2 ⟨rfl, hb2⟩
      have TW2 := Lib.hid (TW1.out.next hb2)
      clear hb2 e0 e1
      go_wp2
      go_ret
      exact ⟨false, rfl, ⟨fun h => (by cases h), fun h => absurd h HN.out⟩, TW2.out.below⟩
  · have HAf := Lib.hid (fun W hb => HA.out false (by simp [ha]) W hb)
    have HN := Lib.hid (sub_no G (a := (da, sa.data.toList)) (b := (db, sb.data.toList)) (fun h => ha h.1))
    go_enter Tryz.func23, Tryz.ntmps23
    go_wp2_with fail
    refine (HAf.out _ TW.out.below).mono ?_
    rintro e w1 ⟨rfl, hb1⟩
    have TW1 := Lib.hid (TW.out.next hb1)
    clear hb1
    go_wp2
    go_ret
    exact ⟨false, rfl, ⟨fun h => (by cases h), fun h => absurd h HN.out⟩, TW1.out.below⟩
/-- Sub: which type is below which. -/
theorem Sub_upto : ∀ (n : Nat) (da db : Int) (sa sb : ByteArray) (w : World), HT B tb mb A cap ow cs cl sl S w → da ≤ n → sa.size ≤ 1000000 → sb.size ≤ 1000000 →
  Calls Tryz.prog 23 #[.pointer (some ⟨tb, 0, none⟩), .agg #[.int .i64 da, .string sa], .agg #[.int .i64 db, .string sb]] w fun e w' => SubAns cs (da, sa.data.toList) (db, sb.data.toList) w w' e
 | 0, da, db, sa, sb, w, h, hd, hsa, hsb => Sub_step h hsa hsb fun _ _ h1 _ => absurd h1 (by omega)
 | n + 1, da, db, sa, sb, w, h, hd, hsa, hsb => Sub_step h hsa hsb fun _ _ _ _ W hW => Sub_upto n (da - 1) (db - 1) sa sb W hW (by omega) hsa hsb
theorem Sub_any {da db : Int} {sa sb : ByteArray} {w : World} (h : HT B tb mb A cap ow cs cl sl S w) (hsa : sa.size ≤ 1000000) (hsb : sb.size ≤ 1000000) :
  Calls Tryz.prog 23 #[.pointer (some ⟨tb, 0, none⟩), .agg #[.int .i64 da, .string sa], .agg #[.int .i64 db, .string sb]] w fun e w' => SubAns cs (da, sa.data.toList) (db, sb.data.toList) w w' e :=
 Sub_upto da.toNat da db sa sb w h (by omega) hsa hsb
end
end Go.Proofs.YtmaknddlgppinaaGreatDoor
