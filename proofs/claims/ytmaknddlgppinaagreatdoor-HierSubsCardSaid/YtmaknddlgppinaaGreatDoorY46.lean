/-
  CUT and joined from the texts of this seat: Ko
-/
import Derived.Test.YtmaknddlgppinaaGreatDoorY01
import Derived.Test.YtmaknddlgppinaaGreatDoorY31
import Derived.Test.YtmaknddlgppinaaGreatDoorY40
import Derived.Test.YtmaknddlgppinaaGreatDoorY42
import Derived.Test.YtmaknddlgppinaaGreatDoorY45
import Derived.Deep.QuietTactic
set_option linter.unusedVariables false
set_option linter.unusedSimpArgs false
namespace Go.Proofs.YtmaknddlgppinaaGreatDoor
open Go.RowKit
set_option maxRecDepth 100000 in
theorem eql36n (q : Option Addr) (V : World) : (binOp .eql 36 (.pointer q) (.pointer none)).run Tryz.prog V = .ok (.bool (decide (q = none))) V := by
 cases q <;> kernel_rfl
set_option maxRecDepth 100000 in
theorem eql32m (q : Option Addr) (V : World) : (binOp .eql 32 (.pointer q) (.pointer none)).run Tryz.prog V = .ok (.bool (decide (q = none))) V := by
 cases q <;> kernel_rfl
theorem Rlub_is_any {B p ow cap : Nat} {A : Option Addr} {cs : List PC} {w : World} (h : RT B p A cap cs ow w) (G : Good cs) (hN : NamesOk cs) {da db : Int} {sa sb : ByteArray} (hsa : sa.size ≤ 1000000) (hsb : sb.size ≤ 1000000) :
  Calls Tryz.prog 22 #[.pointer (some ⟨p, 0, none⟩), .agg #[.int .i64 da, .string sa], .agg #[.int .i64 db, .string sb]] w fun e w' => ∃ d s ok, e = .returned (.tuple #[.agg #[.int .i64 d, .string s], .bool ok]) ∧ LubIs cs (da, sa.data.toList) (db, sb.data.toList) d s ok ∧ Below w.heap.size w w' := by
 refine (RLub_any h G hN da db sa sb hsa hsb).mono ?_
 rintro e w' ⟨d, s, ok, he, h1, h2, h3, h4, h5⟩
 exact ⟨d, s, ok, he, ⟨h1, h2, h3, h4⟩, h5⟩
theorem info31s : ∃ i, Tryz.prog.info? 31 = some i ∧ i.zero = some (.agg #[.int .i64 0, .string ⟨#[]⟩]) ∧ i.size = 2 ∧ i.bytes = 24 := info_parts (by kernel_rfl)
theorem und39s : Tryz.prog.underlying 39 = some (.slice 31) := by kernel_rfl
/-- All types that HierSubs holds against one another. -/
def allT (l : List Int) (da db : Int) (sa sb : ByteArray) : List (Int × ByteArray) := typesR l ++ [(da, sa), (db, sb)]
/-- Raw classes have right names. -/
theorem names_raw {rs : List Rw} {ds : List PC} (h : openP builtP (fcs (filesR rs) 0) = .inl ds) : NamesOk ds := by
 have ho := (open_raw good_built h).2.1
 rw [ho]
 intro c hc
 rcases List.mem_append.1 hc with hc | hc
 ·have : ∀ c ∈ builtP, nameL c.name = true := by decide +kernel
  exact this c hc
 ·obtain ⟨f, hf, rfl⟩ := List.mem_map.1 hc
  have key : ∀ (l : List Rw) (i : Nat), f ∈ fcR l i → nameL f.2.name = true := by
   intro l
   induction l with
   | nil => intro i h; cases h
   | cons r t ih =>
    intro i h
    rcases List.mem_cons.1 h with rfl | h
    ·exact (nmR_ok r.nm).name
    ·exact ih _ h
  exact key _ _ hf
theorem allrow {B : Nat} {w : World} {v : Value} {l : List Int} {da db : Int} {sa sb : ByteArray} (h : Row B 2 w v (min l.length 12 + 2) (tcellsR ((l.take 12).map tyR) ++ [.int .i64 da, .string sa, .int .i64 db, .string sb])) : TRow B w v (allT l da db sa sb) := by
 have e : (allT l da db sa sb).length = min l.length 12 + 2 := by simp [allT, typesR]; omega
 have e2 : tcellsR (allT l da db sa sb) = tcellsR ((l.take 12).map tyR) ++ [.int .i64 da, .string sa, .int .i64 db, .string sb] := by
  unfold allT typesR tcellsR
  rw [List.flatMap_append]
  rfl
 unfold TRow
 rw [e, e2]
 exact h
theorem all_small {l : List Int} {da db : Int} {sa sb : ByteArray} (ha : sa.size ≤ 1000) (hb : sb.size ≤ 1000) {k : Nat} {t : Int × ByteArray} (h : (allT l da db sa sb)[k]? = some t) : t.2.size ≤ 1000000 := by
 unfold allT at h
 by_cases hk : k < (typesR l).length
 ·rw [List.getElem?_append_left hk] at h
  exact types_small h
 ·rw [List.getElem?_append_right (by omega)] at h
  have := List.mem_of_getElem? h
  simp only [List.mem_cons, List.not_mem_nil, or_false] at this
  rcases this with rfl | rfl <;> simp only <;> omega
set_option maxRecDepth 1000000 in
set_option maxHeartbeats 100000000 in
theorem subs_any {w : World} (hN : Blt w) {B0 : Nat} (rs : List Rw) (l : List Int) (da db : Int) (sa sb : ByteArray) (v v3 : Value) (hr : RawsRow B0 w v rs) (hi : IRow B0 w v3 l) (hl : ∀ z ∈ l, B64 z) (hB : B0 ≤ w.heap.size) :
  Calls Tryz.prog 4 #[v, v3, .agg #[.int .i64 da, .string sa], .agg #[.int .i64 db, .string sb]] w fun e w' => e = .returned (.bool true) ∧ Below w.heap.size w w' := by
 have HN := Lib.hid hN
 have HR := Lib.hid hr
 have HI := Lib.hid hi
 have HL := Lib.hid hl
 have TW := Lib.hid (Two.start w da db sa sb)
 obtain ⟨i0, hi0, hz0, hz1, hz2⟩ := info31s
 clear hN hr hi hl
 go_enter Tryz.func4, Tryz.ntmps4
 go_wp2_with fail
 refine (shown_any (HN.out.below TW.out.below)).mono ?_
 rintro e w1 ⟨rfl, b1⟩
 have T1 := Lib.hid (TW.out.next b1)
 clear b1
 go_wp2_with fail
 refine (files_any rs v w1 (HR.out.keep (fun p hp => T1.out.below.cell (Nat.lt_of_lt_of_le hp hB))) (Nat.le_trans hB T1.out.below.size)).mono ?_
 rintro e w2 ⟨vf, rfl, own, b2⟩
 have F2 := Lib.hid own.row
 have T2 := Lib.hid (T1.out.next b2)
 clear own b2
 go_wp2_with fail
 refine (New_any (HN.out.below T2.out.below) (filesR rs) vf F2.out (Nat.le_refl _) (filesR_texts rs)).mono ?_
 rintro e w3 ⟨ha, b3⟩
 have T3 := Lib.hid (T2.out.next b3)
 clear b3 F2
 rcases ha with ⟨x, a, ho, rfl⟩ | ⟨ds, nb, mb, A, cap, cl, sl, S, ho, rfl, ht⟩
 ·have HO := Lib.hid ho
  clear ho
  go_wp2_with fail
  refine (files_any rs v w3 (HR.out.keep (fun p hp => T3.out.below.cell (Nat.lt_of_lt_of_le hp hB))) (Nat.le_trans hB T3.out.below.size)).mono ?_
  rintro e w4 ⟨vf, rfl, own, b4⟩
  have F4 := Lib.hid own.row
  have T4 := Lib.hid (T3.out.next b4)
  clear own b4
  go_wp2_with fail
  refine (RNew_any w4 (filesR rs) vf F4.out (Nat.le_refl _) (raw_ok rs) (raw_RR rs)).mono ?_
  rintro e w5 ⟨ha, b5⟩
  have T5 := Lib.hid (T4.out.next b5)
  clear b5 F4
  rcases ha with ⟨x', a', ho', rfl⟩ | ⟨ds, q, A, cap, ho', rfl, ht⟩
  ·have hxx : x' = x := by have := HO.out; rw [ho'] at this; cases this; rfl
   subst hxx
   have e1 : (((x' : Nat) : Int) != ((x' : Nat) : Int)) = false := by simp
   have p1 := fun V => eql32m none V
   have p2 := fun V => eql36n none V
   clear ho'
   go_wp2
   go_ret
   exact ⟨rfl, T5.out.below⟩
  ·have := HO.out
   rw [ho'] at this
   cases this
 have HO := Lib.hid ho
 have HT := Lib.hid ht
 clear ho ht
 go_wp2_with fail
 refine (files_any rs v w3 (HR.out.keep (fun p hp => T3.out.below.cell (Nat.lt_of_lt_of_le hp hB))) (Nat.le_trans hB T3.out.below.size)).mono ?_
 rintro e w4 ⟨vf, rfl, own, b4⟩
 have F4 := Lib.hid own.row
 have T4 := Lib.hid (T3.out.next b4)
 have HT4 := Lib.hid (HT.out.below b4)
 clear own b4 HT
 go_wp2_with fail
 refine (RNew_any w4 (filesR rs) vf F4.out (Nat.le_refl _) (raw_ok rs) (raw_RR rs)).mono ?_
 rintro e V ⟨ha, b5⟩
 have T5 := Lib.hid (T4.out.next b5)
 have HT5 := Lib.hid (HT4.out.below (b5.mono HT4.out.hB))
 clear b5 F4 HT4
 rcases ha with ⟨x', a', ho', rfl⟩ | ⟨ds', q, A', cap', ho', rfl, ht'⟩
 ·exfalso
  have := HO.out
  rw [ho'] at this
  cases this
 obtain rfl : ds' = ds := by have := HO.out; rw [ho'] at this; cases this; rfl
 have RTV := Lib.hid ht'
 have GD := Lib.hid (open_raw good_built ho').1
 have NOK := Lib.hid (names_raw ho')
 have xa0 := T5.out.a0
 have xa1 := T5.out.a1
 have xb0 := T5.out.b0
 have xb1 := T5.out.b1
 have p1 := fun V => eql32m (some ⟨nb, 0, none⟩) V
 have p2 := fun V => eql36n (some ⟨q, 0, none⟩) V
 clear ho' ht'
 by_cases hsa : 1000 < sa.size
 ·have e1 : (1000 : Int) < (sa.size : Int) := by omega
  go_wp2
  go_ret
  exact ⟨rfl, T5.out.below⟩
 by_cases hsb : 1000 < sb.size
 ·have e1 : (sa.size : Int) ≤ 1000 := by omega
  have e2 : (1000 : Int) < (sb.size : Int) := by omega
  go_wp2
  go_ret
  exact ⟨rfl, T5.out.below⟩
 have e1 : (sa.size : Int) ≤ 1000 := by omega
 have e2 : (sb.size : Int) ≤ 1000 := by omega
 have hxa : w.heap.size < V.heap.size := by have := T5.out.sz; omega
 have hxb : w.heap.size + 1 < V.heap.size := by have := T5.out.sz; omega
 have BW := Lib.hid T5.out.below
 have hl12 : min l.length 12 ≤ 12 := by omega
 go_upto_region 10 with fail
 go_cut [16] (fun v16 wx => Below V.heap.size V wx ∧ TRow wx.heap.size wx v16 (allT l da db sa sb))
 case first =>
  have T0 := (Below.refl V.heap.size V).drew
  refine wp_region_held_drew (S := fun W => Below V.heap.size V W) (by kernel_rfl) T0 (fun hS0 => ?_)
  refine wpAnyH_take (i := 0) (oi := ({ dst := some 69, op := Op.move (Operand.tmp 1), type := 29, pos := "law.go:199", after := #[], guard := none } : Oper)) (v := ?av1) rfl (by kernel_rfl) (by kernel_rfl) (by kernel_rfl) (fun _ _ _ h => h) (Or.inl ⟨by rfl, ?ay1⟩) T0 ?_
  case ay1 => (intro V hSw; go_simp; try with_reducible rfl)
  try simp only [pu0, puN, pu1, pu2, pu3]
  refine wpAnyH_take (i := 2) (oi := ({ dst := some 71, op := Op.load 31 (Operand.tmp 6), type := 31, pos := "law.go:199", after := #[], guard := none } : Oper)) (v := ?av2) rfl (by kernel_rfl) (by kernel_rfl) (by kernel_rfl) (fun _ _ _ h => h) (Or.inl ⟨by rfl, ?ay2⟩) T0 ?_
  case ay2 => (intro V hSw; have e0 := (hSw.cell (p := ⟨w.heap.size, 0, none⟩) hxa).trans xa0; have e1 := (hSw.cell (p := ⟨w.heap.size, 1, none⟩) hxa).trans xa1; go_simp; try with_reducible rfl)
  try simp only [pu0, puN, pu1, pu2, pu3]
  refine wpAnyH_take (i := 3) (oi := ({ dst := some 72, op := Op.load 31 (Operand.tmp 7), type := 31, pos := "law.go:199", after := #[], guard := none } : Oper)) (v := ?av3) rfl (by kernel_rfl) (by kernel_rfl) (by kernel_rfl) (fun _ _ _ h => h) (Or.inl ⟨by rfl, ?ay3⟩) T0 ?_
  case ay3 => (intro V hSw; have e0 := (hSw.cell (p := ⟨w.heap.size + 1, 0, none⟩) hxb).trans xb0; have e1 := (hSw.cell (p := ⟨w.heap.size + 1, 1, none⟩) hxb).trans xb1; go_simp; try with_reducible rfl)
  try simp only [pu0, puN, pu1, pu2, pu3]
  refine wpAnyH_ready (rs := [1, 4]) (by kernel_rfl) (by simp) ?_
  refine (AllReadyH.cons (o := _) rfl (fun K hK => ?_) (AllReadyH.cons (o := _) rfl (fun K hK => ?_) AllReadyH.nil))
  ·go_simp
   go_at_call 20
   refine (types_any l v3 _ (HI.out.keep (fun p hp => (BW.out.trans (T0.mono BW.out.size)).cell (Nat.lt_of_lt_of_le hp hB))) (Nat.le_trans hB (BW.out.trans (T0.mono BW.out.size)).size) (fun c hc => HL.out c hc)).mono ?_
   rintro e P1 ⟨vt, rfl, own, hb1⟩
   have T4 := T0.trans (hb1.mono T0.size)
   have hbs := T0.size
   have hPs := hb1.size
   have OW := Lib.hid own
   obtain ⟨at_, ct, rfl⟩ := hown_form own
   clear own hb1
   try go_wp2_with fail
   refine hK.out _ _ T4 (fun hS4 => ?_)
   clear hK K
   try simp only [pu0, puN, pu1, pu2, pu3]
   refine wpAnyH_ready (rs := [4]) (by kernel_rfl) (by simp) ?_
   refine (AllReadyH.cons (o := _) rfl (fun K hK => ?_) AllReadyH.nil)
   go_simp
   have nb1 := hheap_new (P1) (.cells #[.int .i64 da, .string sa, .int .i64 db, .string sb] 31)
   have T5 := T4.alloc T4.size (.cells #[.int .i64 da, .string sa, .int .i64 db, .string sb] 31)
   replace OW := Lib.hid (World.ownsRow.alloc OW.out (.cells #[.int .i64 da, .string sa, .int .i64 db, .string sb] 31))
   try go_wp2_with fail
   refine hK.out _ _ T5 (fun hS5 => ?_)
   clear hK K
   try simp only [pu0, puN, pu1, pu2, pu3]
   refine wpAnyH_ready (rs := [5]) (by kernel_rfl) (by simp) ?_
   refine (AllReadyH.cons (o := _) rfl (fun K hK => ?_) AllReadyH.nil)
   refine hstep_append_own2 rfl (.tmp 70) (.tmp 73) 39 rfl _ 31 i0 (.agg #[.int .i64 0, .string ⟨#[]⟩]) 2 24 und39s hi0 hz0 hz1 hz2 rfl (by decide) (.slice at_ (min l.length 12) ct) (min l.length 12) _ rfl OW.out ⟨_, 0, none⟩ 2 2 [.int .i64 da, .string sa, .int .i64 db, .string sb] rfl rfl (fun j u hu => by rw [plain_add, Nat.zero_add, kcells_of nb1]; simpa using hu) (fun u hu => by simp only [List.mem_cons, List.not_mem_nil, or_false] at hu; rcases hu with rfl | rfl | rfl | rfl <;> rfl) (by unfold maxLen; omega) (by omega) (by first | (simp; omega) | (have h9 := hPs; simp at h9 ⊢; omega)) ?_
   intro v5 w5 own5 hg5 hm5
   have T6 := Below.grown T5 hg5 (by have := T5.size; exact this) (fun q hq => Nat.le_trans hbs (hown_block_ge OW.out q hq))
   have RW := Lib.hid (Row.hof_own own5)
   clear own5 hg5 hm5
   try go_simp
   try go_wp2_with fail
   refine hK.out _ _ T6 (fun hS6 => ?_)
   clear hK K
   try simp only [pu0, puN, pu1, pu2, pu3]
   refine wpAnyH_take (i := 6) (oi := ({ dst := some 16, op := Op.assign (Operand.tmp 74), type := 39, pos := "law.go:199", after := #[{ on := 5, ground := Ground.data }, { on := 5, ground := Ground.chain }, { on := 0, ground := Ground.phase }, { on := 1, ground := Ground.phase }, { on := 2, ground := Ground.phase }, { on := 3, ground := Ground.phase }, { on := 4, ground := Ground.phase }, { on := 5, ground := Ground.phase }], guard := none } : Oper)) (v := ?av7) rfl (by kernel_rfl) (by kernel_rfl) (by kernel_rfl) (fun _ _ _ h => h) (Or.inl ⟨by rfl, ?ay7⟩) T6 ?_
   case ay7 => (intro V hSw; go_simp; try with_reducible rfl)
   try simp only [pu0, puN, pu1, pu2, pu3]
   refine wpAnyH_done (by kernel_rfl) ?_ _
   try go_wp2
   go_meet
   case rel => exact ⟨T6, allrow RW.out⟩
  ·go_simp
   have nb : (V.drew.alloc (.cells #[.int .i64 da, .string sa, .int .i64 db, .string sb] 31)).heap[V.heap.size]? = some (.cells #[.int .i64 da, .string sa, .int .i64 db, .string sb] 31 (0, 0)) := hheap_new (V.drew) (.cells #[.int .i64 da, .string sa, .int .i64 db, .string sb] 31)
   have T8 := T0.alloc T0.size (.cells #[.int .i64 da, .string sa, .int .i64 db, .string sb] 31)
   try go_wp2_with fail
   refine hK.out _ _ T8 (fun hS8 => ?_)
   clear hK K
   try simp only [pu0, puN, pu1, pu2, pu3]
   refine wpAnyH_ready (rs := [1]) (by kernel_rfl) (by simp) ?_
   refine (AllReadyH.cons (o := _) rfl (fun K hK => ?_) AllReadyH.nil)
   go_simp
   go_at_call 20
   refine (types_any l v3 _ (HI.out.keep (fun p hp => (BW.out.trans (T8.mono BW.out.size)).cell (Nat.lt_of_lt_of_le hp hB))) (Nat.le_trans hB (BW.out.trans (T8.mono BW.out.size)).size) (fun c hc => HL.out c hc)).mono ?_
   rintro e P1 ⟨vt, rfl, own, hb1⟩
   have T9 := T8.trans (hb1.mono T8.size)
   have hbs := T8.size
   have hPs := hb1.size
   have nb1 := (hb1.block _ (lt_of_block nb)).trans nb
   have OW := Lib.hid own
   obtain ⟨at_, ct, rfl⟩ := hown_form own
   clear own hb1
   try go_wp2_with fail
   refine hK.out _ _ T9 (fun hS9 => ?_)
   clear hK K
   try simp only [pu0, puN, pu1, pu2, pu3]
   refine wpAnyH_ready (rs := [5]) (by kernel_rfl) (by simp) ?_
   refine (AllReadyH.cons (o := _) rfl (fun K hK => ?_) AllReadyH.nil)
   refine hstep_append_own2 rfl (.tmp 70) (.tmp 73) 39 rfl _ 31 i0 (.agg #[.int .i64 0, .string ⟨#[]⟩]) 2 24 und39s hi0 hz0 hz1 hz2 rfl (by decide) (.slice at_ (min l.length 12) ct) (min l.length 12) _ rfl OW.out ⟨_, 0, none⟩ 2 2 [.int .i64 da, .string sa, .int .i64 db, .string sb] rfl rfl (fun j u hu => by rw [plain_add, Nat.zero_add, kcells_of nb1]; simpa using hu) (fun u hu => by simp only [List.mem_cons, List.not_mem_nil, or_false] at hu; rcases hu with rfl | rfl | rfl | rfl <;> rfl) (by unfold maxLen; omega) (by omega) (by first | (simp; omega) | (have h9 := hPs; simp at h9 ⊢; omega)) ?_
   intro v5 w5 own5 hg5 hm5
   have T10 := Below.grown T9 hg5 (by have := T9.size; exact this) (fun q hq => Nat.le_trans hbs (hown_block_ge OW.out q hq))
   have RW := Lib.hid (Row.hof_own own5)
   clear own5 hg5 hm5
   try go_simp
   try go_wp2_with fail
   refine hK.out _ _ T10 (fun hS10 => ?_)
   clear hK K
   try simp only [pu0, puN, pu1, pu2, pu3]
   refine wpAnyH_take (i := 6) (oi := ({ dst := some 16, op := Op.assign (Operand.tmp 74), type := 39, pos := "law.go:199", after := #[{ on := 5, ground := Ground.data }, { on := 5, ground := Ground.chain }, { on := 0, ground := Ground.phase }, { on := 1, ground := Ground.phase }, { on := 2, ground := Ground.phase }, { on := 3, ground := Ground.phase }, { on := 4, ground := Ground.phase }, { on := 5, ground := Ground.phase }], guard := none } : Oper)) (v := ?av11) rfl (by kernel_rfl) (by kernel_rfl) (by kernel_rfl) (fun _ _ _ h => h) (Or.inl ⟨by rfl, ?ay11⟩) T10 ?_
   case ay11 => (intro V hSw; go_simp; try with_reducible rfl)
   try simp only [pu0, puN, pu1, pu2, pu3]
   refine wpAnyH_done (by kernel_rfl) ?_ _
   try go_wp2
   go_meet
   case rel => exact ⟨T10, allrow RW.out⟩
 obtain ⟨hb, htr⟩ := hcut
 obtain ⟨U, hU⟩ : ∃ x, x = wc := ⟨_, rfl⟩
 subst hU
 have TR := Lib.hid htr
 obtain ⟨a8, c8, e8, _, hmax8⟩ := htr.length
 subst e8
 obtain ⟨Q, hQ⟩ : ∃ Q, (allT l da db sa sb).length = Q := ⟨_, rfl⟩
 have hQ14 : Q ≤ 14 := by rw [← hQ]; simp [allT, typesR]; omega
 rw [hQ] at TR ⊢
 have HQ := Lib.hid hQ
 have HT := Lib.hid (HT5.out.below (hb.mono HT5.out.hB))
 have HTU := Lib.hid (RTV.out.link hb)
 have BWU := Lib.hid (BW.out.trans (hb.mono BW.out.size))
 have SMA := Lib.hid (fun k t (h : (allT l da db sa sb)[k]? = some t) => all_small (by omega : sa.size ≤ 1000) (by omega : sb.size ≤ 1000) h)
 clear hb htr hQ hmax8 xa0 xa1 xb0 xb1 p1 p2 e1 e2 hxa hxb
 go_wp2
 go_loopg [17] Q (fun g iv wx => ∃ i : Nat, iv = .int .i64 i ∧ i + g = Q ∧ Below U.heap.size U wx)
 case atStart => exact ⟨0, rfl, by omega, Below.refl _ _⟩
 case round => as_aux_lemma =>
  obtain ⟨i2, rfl, hig2, hb⟩ := hrel
  have X := Lib.hid hb
  clear hb
  obtain ⟨V0, hV0⟩ : ∃ x, x = wr := ⟨_, rfl⟩
  subst hV0
  obtain ⟨g1, hgn⟩ : ∃ g, g = gk := ⟨_, rfl⟩
  subst hgn
  by_cases hiq : i2 < Q
  ·obtain ⟨⟨d1, s1⟩, ht1⟩ : ∃ t, (allT l da db sa sb)[i2]? = some t := ⟨_, List.getElem?_eq_getElem (by rw [HQ.out]; exact hiq)⟩
   obtain ⟨bt, ot, rfl, hbt, ca0, ca1⟩ := TR.out.at_ ht1
   have hz1 := SMA.out _ _ ht1
   simp only at hz1 ca0 ca1
   have CA := Lib.hid (And.intro ca0 ca1)
   have hg2 : g1 - 1 < g1 := by omega
   clear ht1 ca0 ca1
   go_wp2
   go_loopg [18] Q (fun g iv wx => ∃ k : Nat, iv = .int .i64 k ∧ k + g = Q ∧ Below V0.heap.size V0 wx)
   case atStart => exact ⟨0, rfl, by omega, Below.refl _ _⟩
   case round => as_aux_lemma =>
    obtain ⟨k, rfl, hkg, hb⟩ := hrel
    replace X := Lib.hid (X.out.trans (hb.mono X.out.size))
    have Z := Lib.hid hb
    clear hb
    obtain ⟨Vk, hVk⟩ : ∃ x, x = wr := ⟨_, rfl⟩
    subst hVk
    obtain ⟨g2, hgn⟩ : ∃ g, g = gk := ⟨_, rfl⟩
    subst hgn
    by_cases hkq : k < Q
    ·obtain ⟨⟨d2, s2⟩, ht2⟩ : ∃ t, (allT l da db sa sb)[k]? = some t := ⟨_, List.getElem?_eq_getElem (by rw [HQ.out]; exact hkq)⟩
     obtain ⟨bt', ot', e0, hbt', cb0, cb1⟩ := TR.out.at_ ht2
     injection e0 with e0
     injection e0 with e0 e1
     subst e0
     subst e1
     have hz2 := SMA.out _ _ ht2
     simp only at hz2 cb0 cb1
     have CB := Lib.hid (And.intro cb0 cb1)
     have hg3 : g2 - 1 < g2 := by omega
     clear ht2 hbt' cb0 cb1
     go_upto_region 17 with fail
     go_cut [19, 20] (fun va vb wx => ∃ y d t ok, va = .pointer (some ⟨y, 0, none⟩) ∧ vb = .bool ok ∧ LubIs ds' (d1, s1.data.toList) (d2, s2.data.toList) d t ok ∧ Below Vk.heap.size Vk wx ∧ wx.heap[y]? = some (.cells #[.int .i64 d, .string t] 31 (0, 0)))
     case first => as_aux_lemma =>
      have ca0 := (X.out.cell (p := ⟨bt, ot + i2 * 2, none⟩) hbt).trans CA.out.1
      have ca1 := (X.out.cell (p := ⟨bt, ot + i2 * 2 + 1, none⟩) hbt).trans CA.out.2
      have cb0 := (X.out.cell (p := ⟨bt, ot + k * 2, none⟩) hbt).trans CB.out.1
      have cb1 := (X.out.cell (p := ⟨bt, ot + k * 2 + 1, none⟩) hbt).trans CB.out.2
      have hbtw : bt < Vk.heap.size := Nat.lt_of_lt_of_le hbt X.out.size
      have T0 := (Below.refl Vk.heap.size Vk).drew
      refine wp_region_held_drew (S := fun V => Below Vk.heap.size Vk V) (by kernel_rfl) T0 (fun hS0 => ?_)
      refine wpAnyH_take (i := 0) (oi := ({ dst := some 88, op := Op.move (Operand.tmp 10), type := 32, pos := "law.go:202", after := #[], guard := none } : Oper)) (v := ?av12) rfl (by kernel_rfl) (by kernel_rfl) (by kernel_rfl) (fun _ _ _ h => h) (Or.inl ⟨by rfl, ?ay12⟩) T0 ?_
      case ay12 => (intro V hSw; go_simp; try with_reducible rfl)
      try simp only [pu0, puN, pu1, pu2, pu3]
      refine wpAnyH_take (i := 1) (oi := ({ dst := some 89, op := Op.move (Operand.tmp 16), type := 39, pos := "law.go:202", after := #[], guard := none } : Oper)) (v := ?av13) rfl (by kernel_rfl) (by kernel_rfl) (by kernel_rfl) (fun _ _ _ h => h) (Or.inl ⟨by rfl, ?ay13⟩) T0 ?_
      case ay13 => (intro V hSw; go_simp; try with_reducible rfl)
      try simp only [pu0, puN, pu1, pu2, pu3]
      refine wpAnyH_take (i := 2) (oi := ({ dst := some 90, op := Op.move (Operand.tmp 17), type := 3, pos := "law.go:202", after := #[], guard := none } : Oper)) (v := ?av14) rfl (by kernel_rfl) (by kernel_rfl) (by kernel_rfl) (fun _ _ _ h => h) (Or.inl ⟨by rfl, ?ay14⟩) T0 ?_
      case ay14 => (intro V hSw; go_simp; try with_reducible rfl)
      try simp only [pu0, puN, pu1, pu2, pu3]
      refine wpAnyH_take (i := 3) (oi := ({ dst := some 91, op := Op.indexAddr 39 (Operand.tmp 89) (Operand.tmp 90), type := 0, pos := "law.go:202", after := #[{ on := 1, ground := Ground.data }, { on := 2, ground := Ground.data }], guard := none } : Oper)) (v := ?av15) rfl (by kernel_rfl) (by kernel_rfl) (by kernel_rfl) (fun _ _ _ h => h) (Or.inl ⟨by rfl, ?ay15⟩) T0 ?_
      case ay15 => (intro V hSw; go_simp; try with_reducible rfl)
      try simp only [pu0, puN, pu1, pu2, pu3]
      refine wpAnyH_take (i := 4) (oi := ({ dst := some 92, op := Op.load 31 (Operand.tmp 91), type := 31, pos := "law.go:202", after := #[{ on := 3, ground := Ground.data }], guard := none } : Oper)) (v := ?av16) rfl (by kernel_rfl) (by kernel_rfl) (by kernel_rfl) (fun _ _ _ h => h) (Or.inl ⟨by rfl, ?ay16⟩) T0 ?_
      case ay16 => (intro V hSw; have e1 := (hSw.cell (p := ⟨bt, ot + i2 * 2, none⟩) hbtw).trans ca0; have e2 := (hSw.cell (p := ⟨bt, ot + i2 * 2 + 1, none⟩) hbtw).trans ca1; go_simp; try with_reducible rfl)
      try simp only [pu0, puN, pu1, pu2, pu3]
      refine wpAnyH_take (i := 5) (oi := ({ dst := some 93, op := Op.move (Operand.tmp 16), type := 39, pos := "law.go:202", after := #[], guard := none } : Oper)) (v := ?av17) rfl (by kernel_rfl) (by kernel_rfl) (by kernel_rfl) (fun _ _ _ h => h) (Or.inl ⟨by rfl, ?ay17⟩) T0 ?_
      case ay17 => (intro V hSw; go_simp; try with_reducible rfl)
      try simp only [pu0, puN, pu1, pu2, pu3]
      refine wpAnyH_take (i := 6) (oi := ({ dst := some 94, op := Op.move (Operand.tmp 18), type := 3, pos := "law.go:202", after := #[], guard := none } : Oper)) (v := ?av18) rfl (by kernel_rfl) (by kernel_rfl) (by kernel_rfl) (fun _ _ _ h => h) (Or.inl ⟨by rfl, ?ay18⟩) T0 ?_
      case ay18 => (intro V hSw; go_simp; try with_reducible rfl)
      try simp only [pu0, puN, pu1, pu2, pu3]
      refine wpAnyH_take (i := 7) (oi := ({ dst := some 95, op := Op.indexAddr 39 (Operand.tmp 93) (Operand.tmp 94), type := 0, pos := "law.go:202", after := #[{ on := 5, ground := Ground.data }, { on := 6, ground := Ground.data }], guard := none } : Oper)) (v := ?av19) rfl (by kernel_rfl) (by kernel_rfl) (by kernel_rfl) (fun _ _ _ h => h) (Or.inl ⟨by rfl, ?ay19⟩) T0 ?_
      case ay19 => (intro V hSw; go_simp; try with_reducible rfl)
      try simp only [pu0, puN, pu1, pu2, pu3]
      refine wpAnyH_take (i := 8) (oi := ({ dst := some 96, op := Op.load 31 (Operand.tmp 95), type := 31, pos := "law.go:202", after := #[{ on := 7, ground := Ground.data }], guard := none } : Oper)) (v := ?av20) rfl (by kernel_rfl) (by kernel_rfl) (by kernel_rfl) (fun _ _ _ h => h) (Or.inl ⟨by rfl, ?ay20⟩) T0 ?_
      case ay20 => (intro V hSw; have e1 := (hSw.cell (p := ⟨bt, ot + k * 2, none⟩) hbtw).trans cb0; have e2 := (hSw.cell (p := ⟨bt, ot + k * 2 + 1, none⟩) hbtw).trans cb1; go_simp; try with_reducible rfl)
      try simp only [pu0, puN, pu1, pu2, pu3]
      refine wpAnyH_ready (rs := [9, 13]) (by kernel_rfl) (by simp) ?_
      refine (AllReadyH.cons (o := _) rfl (fun K hK => ?_) (AllReadyH.cons (o := _) rfl (fun K hK => ?_) AllReadyH.nil))
      ·go_simp
       go_at_call 21
       refine (lub_is_any (HT.out.below ((X.out.trans (T0.mono X.out.size)).mono HT.out.hB)) (by exact hz1) (by exact hz2)).mono ?_
       rintro e P1 ⟨d, t, ok, rfl, hL, hb1⟩
       have LL := Lib.hid hL
       have T21 := T0.trans (hb1.mono T0.size)
       clear hL
       try go_wp2_with fail
       refine hK.out _ _ T21 (fun hS21 => ?_)
       clear hK K
       try simp only [pu0, puN, pu1, pu2, pu3]
       refine wpAnyH_take (i := 10) (oi := ({ dst := some 87, op := Op.move (Operand.tmp 97), type := 41, pos := "law.go:202", after := #[{ on := 9, ground := Ground.data }], guard := none } : Oper)) (v := ?av22) rfl (by kernel_rfl) (by kernel_rfl) (by kernel_rfl) (fun _ _ _ h => h) (Or.inl ⟨by rfl, ?ay22⟩) T21 ?_
       case ay22 => (intro V hSw; go_simp; try with_reducible rfl)
       try simp only [pu0, puN, pu1, pu2, pu3]
       refine wpAnyH_take (i := 11) (oi := ({ dst := some 98, op := Op.extract (Operand.tmp 87) 0, type := 31, pos := "law.go:202", after := #[{ on := 10, ground := Ground.data }], guard := none } : Oper)) (v := ?av23) rfl (by kernel_rfl) (by kernel_rfl) (by kernel_rfl) (fun _ _ _ h => h) (Or.inl ⟨by rfl, ?ay23⟩) T21 ?_
       case ay23 => (intro V hSw; go_simp; try with_reducible rfl)
       try simp only [pu0, puN, pu1, pu2, pu3]
       refine wpAnyH_take (i := 12) (oi := ({ dst := some 99, op := Op.extract (Operand.tmp 87) 1, type := 4, pos := "law.go:202", after := #[{ on := 10, ground := Ground.data }, { on := 14, ground := Ground.gcOnly Departure.lateStores }], guard := none } : Oper)) (v := ?av24) rfl (by kernel_rfl) (by kernel_rfl) (by kernel_rfl) (fun _ _ _ h => h) (Or.inl ⟨by rfl, ?ay24⟩) T21 ?_
       case ay24 => (intro V hSw; go_simp; try with_reducible rfl)
       try simp only [pu0, puN, pu1, pu2, pu3]
       refine wpAnyH_ready (rs := [13]) (by kernel_rfl) (by simp) ?_
       refine (AllReadyH.cons (o := _) rfl (fun K hK => ?_) AllReadyH.nil)
       go_simp
       have T25 := T21.alloc T21.size (.cells #[.int .i64 0, .string ⟨#[]⟩] 31)
       try go_wp2_with fail
       refine hK.out _ _ T25 (fun hS25 => ?_)
       clear hK K
       try simp only [pu0, puN, pu1, pu2, pu3]
       refine wpAnyH_ready (rs := [14]) (by kernel_rfl) (by simp) ?_
       refine (AllReadyH.cons (o := _) rfl (fun K hK => ?_) AllReadyH.nil)
       go_simp
       have nb9 := hheap_new P1 (.cells #[.int .i64 0, .string ⟨#[]⟩] 31)
       have n0 := kcells_of nb9 0
       have n1 := kcells_of nb9 1
       have nf := kfree_of nb9
       go_simp
       have NB := hheap_new P1 (.cells #[.int .i64 d, .string t] 31)
       have T26 := T21.alloc T21.size (.cells #[.int .i64 d, .string t] 31)
       try go_wp2_with fail
       refine hK.out _ _ T26 (fun hS26 => ?_)
       clear hK K
       try simp only [pu0, puN, pu1, pu2, pu3]
       refine wpAnyH_take (i := 15) (oi := ({ dst := some 20, op := Op.assign (Operand.tmp 99), type := 4, pos := "law.go:202", after := #[{ on := 12, ground := Ground.data }, { on := 14, ground := Ground.chain }, { on := 0, ground := Ground.phase }, { on := 1, ground := Ground.phase }, { on := 2, ground := Ground.phase }, { on := 3, ground := Ground.phase }, { on := 4, ground := Ground.phase }, { on := 5, ground := Ground.phase }, { on := 6, ground := Ground.phase }, { on := 7, ground := Ground.phase }, { on := 8, ground := Ground.phase }, { on := 9, ground := Ground.phase }, { on := 10, ground := Ground.phase }, { on := 11, ground := Ground.phase }, { on := 12, ground := Ground.phase }, { on := 13, ground := Ground.phase }, { on := 14, ground := Ground.phase }], guard := none } : Oper)) (v := ?av27) rfl (by kernel_rfl) (by kernel_rfl) (by kernel_rfl) (fun _ _ _ h => h) (Or.inl ⟨by rfl, ?ay27⟩) T26 ?_
       case ay27 => (intro V hSw; go_simp; try with_reducible rfl)
       try simp only [pu0, puN, pu1, pu2, pu3]
       refine wpAnyH_done (by kernel_rfl) ?_ _
       try go_wp2
       go_meet
       case rel => exact ⟨_, _, _, _, rfl, rfl, LL.out, T26, NB⟩
      ·go_simp
       have T28 := T0.alloc T0.size (.cells #[.int .i64 0, .string ⟨#[]⟩] 31)
       try go_wp2_with fail
       refine hK.out _ _ T28 (fun hS28 => ?_)
       clear hK K
       try simp only [pu0, puN, pu1, pu2, pu3]
       refine wpAnyH_ready (rs := [9]) (by kernel_rfl) (by simp) ?_
       refine (AllReadyH.cons (o := _) rfl (fun K hK => ?_) AllReadyH.nil)
       go_simp
       go_at_call 21
       refine (lub_is_any (HT.out.below ((X.out.trans (T28.mono X.out.size)).mono HT.out.hB)) (by exact hz1) (by exact hz2)).mono ?_
       rintro e P1 ⟨d, t, ok, rfl, hL, hb1⟩
       have LL := Lib.hid hL
       have T29 := T28.trans (hb1.mono T28.size)
       have nb9 : P1.heap[Vk.heap.size]? = some (.cells #[.int .i64 0, .string ⟨#[]⟩] 31 (0, 0)) := alloc_facts (W0 := Vk.drew) hb1
       clear hL
       try go_wp2_with fail
       refine hK.out _ _ T29 (fun hS29 => ?_)
       clear hK K
       try simp only [pu0, puN, pu1, pu2, pu3]
       refine wpAnyH_take (i := 10) (oi := ({ dst := some 87, op := Op.move (Operand.tmp 97), type := 41, pos := "law.go:202", after := #[{ on := 9, ground := Ground.data }], guard := none } : Oper)) (v := ?av30) rfl (by kernel_rfl) (by kernel_rfl) (by kernel_rfl) (fun _ _ _ h => h) (Or.inl ⟨by rfl, ?ay30⟩) T29 ?_
       case ay30 => (intro V hSw; go_simp; try with_reducible rfl)
       try simp only [pu0, puN, pu1, pu2, pu3]
       refine wpAnyH_take (i := 11) (oi := ({ dst := some 98, op := Op.extract (Operand.tmp 87) 0, type := 31, pos := "law.go:202", after := #[{ on := 10, ground := Ground.data }], guard := none } : Oper)) (v := ?av31) rfl (by kernel_rfl) (by kernel_rfl) (by kernel_rfl) (fun _ _ _ h => h) (Or.inl ⟨by rfl, ?ay31⟩) T29 ?_
       case ay31 => (intro V hSw; go_simp; try with_reducible rfl)
       try simp only [pu0, puN, pu1, pu2, pu3]
       refine wpAnyH_take (i := 12) (oi := ({ dst := some 99, op := Op.extract (Operand.tmp 87) 1, type := 4, pos := "law.go:202", after := #[{ on := 10, ground := Ground.data }, { on := 14, ground := Ground.gcOnly Departure.lateStores }], guard := none } : Oper)) (v := ?av32) rfl (by kernel_rfl) (by kernel_rfl) (by kernel_rfl) (fun _ _ _ h => h) (Or.inl ⟨by rfl, ?ay32⟩) T29 ?_
       case ay32 => (intro V hSw; go_simp; try with_reducible rfl)
       try simp only [pu0, puN, pu1, pu2, pu3]
       refine wpAnyH_ready (rs := [14]) (by kernel_rfl) (by simp) ?_
       refine (AllReadyH.cons (o := _) rfl (fun K hK => ?_) AllReadyH.nil)
       go_simp
       have n0 := kcells_of nb9 0
       have n1 := kcells_of nb9 1
       have nf := kfree_of nb9
       go_simp
       have NB := set2 nb9 (.int .i64 d) (.string t)
       have T33 := (T29.setCell (p := ⟨Vk.heap.size, 0, none⟩) (Nat.le_refl _) (.int .i64 d)).setCell (p := ⟨Vk.heap.size, 1, none⟩) (Nat.le_refl _) (.string t)
       try go_wp2_with fail
       refine hK.out _ _ T33 (fun hS33 => ?_)
       clear hK K
       try simp only [pu0, puN, pu1, pu2, pu3]
       refine wpAnyH_take (i := 15) (oi := ({ dst := some 20, op := Op.assign (Operand.tmp 99), type := 4, pos := "law.go:202", after := #[{ on := 12, ground := Ground.data }, { on := 14, ground := Ground.chain }, { on := 0, ground := Ground.phase }, { on := 1, ground := Ground.phase }, { on := 2, ground := Ground.phase }, { on := 3, ground := Ground.phase }, { on := 4, ground := Ground.phase }, { on := 5, ground := Ground.phase }, { on := 6, ground := Ground.phase }, { on := 7, ground := Ground.phase }, { on := 8, ground := Ground.phase }, { on := 9, ground := Ground.phase }, { on := 10, ground := Ground.phase }, { on := 11, ground := Ground.phase }, { on := 12, ground := Ground.phase }, { on := 13, ground := Ground.phase }, { on := 14, ground := Ground.phase }], guard := none } : Oper)) (v := ?av34) rfl (by kernel_rfl) (by kernel_rfl) (by kernel_rfl) (fun _ _ _ h => h) (Or.inl ⟨by rfl, ?ay34⟩) T33 ?_
       case ay34 => (intro V hSw; go_simp; try with_reducible rfl)
       try simp only [pu0, puN, pu1, pu2, pu3]
       refine wpAnyH_done (by kernel_rfl) ?_ _
       try go_wp2
       go_meet
       case rel => exact ⟨_, _, _, _, rfl, rfl, LL.out, T33, NB⟩
     obtain ⟨y1, dl1, tl1, ok1, rfl, rfl, hL, hb, hy⟩ := hcut
     obtain ⟨V1x, hV⟩ : ∃ x, x = wc := ⟨_, rfl⟩
     subst hV
     replace X := Lib.hid (X.out.trans (hb.mono X.out.size))
     replace Z := Lib.hid (Z.out.trans (hb.mono Z.out.size))
     have LX1 := Lib.hid hL
     have Y1 := Lib.hid hy
     clear hL hy
     clear hb
     go_upto_region 18 with fail
     go_cut [21, 22] (fun va vb wx => ∃ y d t ok, va = .pointer (some ⟨y, 0, none⟩) ∧ vb = .bool ok ∧ LubIs ds' (d1, s1.data.toList) (d2, s2.data.toList) d t ok ∧ Below V1x.heap.size V1x wx ∧ wx.heap[y]? = some (.cells #[.int .i64 d, .string t] 31 (0, 0)))
     case first => as_aux_lemma =>
      have ca0 := (X.out.cell (p := ⟨bt, ot + i2 * 2, none⟩) hbt).trans CA.out.1
      have ca1 := (X.out.cell (p := ⟨bt, ot + i2 * 2 + 1, none⟩) hbt).trans CA.out.2
      have cb0 := (X.out.cell (p := ⟨bt, ot + k * 2, none⟩) hbt).trans CB.out.1
      have cb1 := (X.out.cell (p := ⟨bt, ot + k * 2 + 1, none⟩) hbt).trans CB.out.2
      have hbtw : bt < V1x.heap.size := Nat.lt_of_lt_of_le hbt X.out.size
      have T0 := (Below.refl V1x.heap.size V1x).drew
      refine wp_region_held_drew (S := fun V => Below V1x.heap.size V1x V) (by kernel_rfl) T0 (fun hS0 => ?_)
      refine wpAnyH_take (i := 0) (oi := ({ dst := some 101, op := Op.move (Operand.tmp 13), type := 36, pos := "law.go:203", after := #[], guard := none } : Oper)) (v := ?av35) rfl (by kernel_rfl) (by kernel_rfl) (by kernel_rfl) (fun _ _ _ h => h) (Or.inl ⟨by rfl, ?ay35⟩) T0 ?_
      case ay35 => (intro V hSw; go_simp; try with_reducible rfl)
      try simp only [pu0, puN, pu1, pu2, pu3]
      refine wpAnyH_take (i := 1) (oi := ({ dst := some 102, op := Op.move (Operand.tmp 16), type := 39, pos := "law.go:203", after := #[], guard := none } : Oper)) (v := ?av36) rfl (by kernel_rfl) (by kernel_rfl) (by kernel_rfl) (fun _ _ _ h => h) (Or.inl ⟨by rfl, ?ay36⟩) T0 ?_
      case ay36 => (intro V hSw; go_simp; try with_reducible rfl)
      try simp only [pu0, puN, pu1, pu2, pu3]
      refine wpAnyH_take (i := 2) (oi := ({ dst := some 103, op := Op.move (Operand.tmp 17), type := 3, pos := "law.go:203", after := #[], guard := none } : Oper)) (v := ?av37) rfl (by kernel_rfl) (by kernel_rfl) (by kernel_rfl) (fun _ _ _ h => h) (Or.inl ⟨by rfl, ?ay37⟩) T0 ?_
      case ay37 => (intro V hSw; go_simp; try with_reducible rfl)
      try simp only [pu0, puN, pu1, pu2, pu3]
      refine wpAnyH_take (i := 3) (oi := ({ dst := some 104, op := Op.indexAddr 39 (Operand.tmp 102) (Operand.tmp 103), type := 0, pos := "law.go:203", after := #[{ on := 1, ground := Ground.data }, { on := 2, ground := Ground.data }], guard := none } : Oper)) (v := ?av38) rfl (by kernel_rfl) (by kernel_rfl) (by kernel_rfl) (fun _ _ _ h => h) (Or.inl ⟨by rfl, ?ay38⟩) T0 ?_
      case ay38 => (intro V hSw; go_simp; try with_reducible rfl)
      try simp only [pu0, puN, pu1, pu2, pu3]
      refine wpAnyH_take (i := 4) (oi := ({ dst := some 105, op := Op.load 31 (Operand.tmp 104), type := 31, pos := "law.go:203", after := #[{ on := 3, ground := Ground.data }], guard := none } : Oper)) (v := ?av39) rfl (by kernel_rfl) (by kernel_rfl) (by kernel_rfl) (fun _ _ _ h => h) (Or.inl ⟨by rfl, ?ay39⟩) T0 ?_
      case ay39 => (intro V hSw; have e1 := (hSw.cell (p := ⟨bt, ot + i2 * 2, none⟩) hbtw).trans ca0; have e2 := (hSw.cell (p := ⟨bt, ot + i2 * 2 + 1, none⟩) hbtw).trans ca1; go_simp; try with_reducible rfl)
      try simp only [pu0, puN, pu1, pu2, pu3]
      refine wpAnyH_take (i := 5) (oi := ({ dst := some 106, op := Op.move (Operand.tmp 16), type := 39, pos := "law.go:203", after := #[], guard := none } : Oper)) (v := ?av40) rfl (by kernel_rfl) (by kernel_rfl) (by kernel_rfl) (fun _ _ _ h => h) (Or.inl ⟨by rfl, ?ay40⟩) T0 ?_
      case ay40 => (intro V hSw; go_simp; try with_reducible rfl)
      try simp only [pu0, puN, pu1, pu2, pu3]
      refine wpAnyH_take (i := 6) (oi := ({ dst := some 107, op := Op.move (Operand.tmp 18), type := 3, pos := "law.go:203", after := #[], guard := none } : Oper)) (v := ?av41) rfl (by kernel_rfl) (by kernel_rfl) (by kernel_rfl) (fun _ _ _ h => h) (Or.inl ⟨by rfl, ?ay41⟩) T0 ?_
      case ay41 => (intro V hSw; go_simp; try with_reducible rfl)
      try simp only [pu0, puN, pu1, pu2, pu3]
      refine wpAnyH_take (i := 7) (oi := ({ dst := some 108, op := Op.indexAddr 39 (Operand.tmp 106) (Operand.tmp 107), type := 0, pos := "law.go:203", after := #[{ on := 5, ground := Ground.data }, { on := 6, ground := Ground.data }], guard := none } : Oper)) (v := ?av42) rfl (by kernel_rfl) (by kernel_rfl) (by kernel_rfl) (fun _ _ _ h => h) (Or.inl ⟨by rfl, ?ay42⟩) T0 ?_
      case ay42 => (intro V hSw; go_simp; try with_reducible rfl)
      try simp only [pu0, puN, pu1, pu2, pu3]
      refine wpAnyH_take (i := 8) (oi := ({ dst := some 109, op := Op.load 31 (Operand.tmp 108), type := 31, pos := "law.go:203", after := #[{ on := 7, ground := Ground.data }], guard := none } : Oper)) (v := ?av43) rfl (by kernel_rfl) (by kernel_rfl) (by kernel_rfl) (fun _ _ _ h => h) (Or.inl ⟨by rfl, ?ay43⟩) T0 ?_
      case ay43 => (intro V hSw; have e1 := (hSw.cell (p := ⟨bt, ot + k * 2, none⟩) hbtw).trans cb0; have e2 := (hSw.cell (p := ⟨bt, ot + k * 2 + 1, none⟩) hbtw).trans cb1; go_simp; try with_reducible rfl)
      try simp only [pu0, puN, pu1, pu2, pu3]
      refine wpAnyH_ready (rs := [9, 13]) (by kernel_rfl) (by simp) ?_
      refine (AllReadyH.cons (o := _) rfl (fun K hK => ?_) (AllReadyH.cons (o := _) rfl (fun K hK => ?_) AllReadyH.nil))
      ·go_simp
       go_at_call 22
       refine (Rlub_is_any (HTU.out.link (X.out.trans (T0.mono X.out.size))) GD.out NOK.out (by exact hz1) (by exact hz2)).mono ?_
       rintro e P1 ⟨d, t, ok, rfl, hL, hb1⟩
       have LL := Lib.hid hL
       have T44 := T0.trans (hb1.mono T0.size)
       clear hL
       try go_wp2_with fail
       refine hK.out _ _ T44 (fun hS44 => ?_)
       clear hK K
       try simp only [pu0, puN, pu1, pu2, pu3]
       refine wpAnyH_take (i := 10) (oi := ({ dst := some 100, op := Op.move (Operand.tmp 110), type := 41, pos := "law.go:203", after := #[{ on := 9, ground := Ground.data }], guard := none } : Oper)) (v := ?av45) rfl (by kernel_rfl) (by kernel_rfl) (by kernel_rfl) (fun _ _ _ h => h) (Or.inl ⟨by rfl, ?ay45⟩) T44 ?_
       case ay45 => (intro V hSw; go_simp; try with_reducible rfl)
       try simp only [pu0, puN, pu1, pu2, pu3]
       refine wpAnyH_take (i := 11) (oi := ({ dst := some 111, op := Op.extract (Operand.tmp 100) 0, type := 31, pos := "law.go:203", after := #[{ on := 10, ground := Ground.data }], guard := none } : Oper)) (v := ?av46) rfl (by kernel_rfl) (by kernel_rfl) (by kernel_rfl) (fun _ _ _ h => h) (Or.inl ⟨by rfl, ?ay46⟩) T44 ?_
       case ay46 => (intro V hSw; go_simp; try with_reducible rfl)
       try simp only [pu0, puN, pu1, pu2, pu3]
       refine wpAnyH_take (i := 12) (oi := ({ dst := some 112, op := Op.extract (Operand.tmp 100) 1, type := 4, pos := "law.go:203", after := #[{ on := 10, ground := Ground.data }, { on := 14, ground := Ground.gcOnly Departure.lateStores }], guard := none } : Oper)) (v := ?av47) rfl (by kernel_rfl) (by kernel_rfl) (by kernel_rfl) (fun _ _ _ h => h) (Or.inl ⟨by rfl, ?ay47⟩) T44 ?_
       case ay47 => (intro V hSw; go_simp; try with_reducible rfl)
       try simp only [pu0, puN, pu1, pu2, pu3]
       refine wpAnyH_ready (rs := [13]) (by kernel_rfl) (by simp) ?_
       refine (AllReadyH.cons (o := _) rfl (fun K hK => ?_) AllReadyH.nil)
       go_simp
       have T48 := T44.alloc T44.size (.cells #[.int .i64 0, .string ⟨#[]⟩] 31)
       try go_wp2_with fail
       refine hK.out _ _ T48 (fun hS48 => ?_)
       clear hK K
       try simp only [pu0, puN, pu1, pu2, pu3]
       refine wpAnyH_ready (rs := [14]) (by kernel_rfl) (by simp) ?_
       refine (AllReadyH.cons (o := _) rfl (fun K hK => ?_) AllReadyH.nil)
       go_simp
       have nb9 := hheap_new P1 (.cells #[.int .i64 0, .string ⟨#[]⟩] 31)
       have n0 := kcells_of nb9 0
       have n1 := kcells_of nb9 1
       have nf := kfree_of nb9
       go_simp
       have NB := hheap_new P1 (.cells #[.int .i64 d, .string t] 31)
       have T49 := T44.alloc T44.size (.cells #[.int .i64 d, .string t] 31)
       try go_wp2_with fail
       refine hK.out _ _ T49 (fun hS49 => ?_)
       clear hK K
       try simp only [pu0, puN, pu1, pu2, pu3]
       refine wpAnyH_take (i := 15) (oi := ({ dst := some 22, op := Op.assign (Operand.tmp 112), type := 4, pos := "law.go:203", after := #[{ on := 12, ground := Ground.data }, { on := 14, ground := Ground.chain }, { on := 0, ground := Ground.phase }, { on := 1, ground := Ground.phase }, { on := 2, ground := Ground.phase }, { on := 3, ground := Ground.phase }, { on := 4, ground := Ground.phase }, { on := 5, ground := Ground.phase }, { on := 6, ground := Ground.phase }, { on := 7, ground := Ground.phase }, { on := 8, ground := Ground.phase }, { on := 9, ground := Ground.phase }, { on := 10, ground := Ground.phase }, { on := 11, ground := Ground.phase }, { on := 12, ground := Ground.phase }, { on := 13, ground := Ground.phase }, { on := 14, ground := Ground.phase }], guard := none } : Oper)) (v := ?av50) rfl (by kernel_rfl) (by kernel_rfl) (by kernel_rfl) (fun _ _ _ h => h) (Or.inl ⟨by rfl, ?ay50⟩) T49 ?_
       case ay50 => (intro V hSw; go_simp; try with_reducible rfl)
       try simp only [pu0, puN, pu1, pu2, pu3]
       refine wpAnyH_done (by kernel_rfl) ?_ _
       try go_wp2
       go_meet
       case rel => exact ⟨_, _, _, _, rfl, rfl, LL.out, T49, NB⟩
      ·go_simp
       have T51 := T0.alloc T0.size (.cells #[.int .i64 0, .string ⟨#[]⟩] 31)
       try go_wp2_with fail
       refine hK.out _ _ T51 (fun hS51 => ?_)
       clear hK K
       try simp only [pu0, puN, pu1, pu2, pu3]
       refine wpAnyH_ready (rs := [9]) (by kernel_rfl) (by simp) ?_
       refine (AllReadyH.cons (o := _) rfl (fun K hK => ?_) AllReadyH.nil)
       go_simp
       go_at_call 22
       refine (Rlub_is_any (HTU.out.link (X.out.trans (T51.mono X.out.size))) GD.out NOK.out (by exact hz1) (by exact hz2)).mono ?_
       rintro e P1 ⟨d, t, ok, rfl, hL, hb1⟩
       have LL := Lib.hid hL
       have T52 := T51.trans (hb1.mono T51.size)
       have nb9 : P1.heap[V1x.heap.size]? = some (.cells #[.int .i64 0, .string ⟨#[]⟩] 31 (0, 0)) := alloc_facts (W0 := V1x.drew) hb1
       clear hL
       try go_wp2_with fail
       refine hK.out _ _ T52 (fun hS52 => ?_)
       clear hK K
       try simp only [pu0, puN, pu1, pu2, pu3]
       refine wpAnyH_take (i := 10) (oi := ({ dst := some 100, op := Op.move (Operand.tmp 110), type := 41, pos := "law.go:203", after := #[{ on := 9, ground := Ground.data }], guard := none } : Oper)) (v := ?av53) rfl (by kernel_rfl) (by kernel_rfl) (by kernel_rfl) (fun _ _ _ h => h) (Or.inl ⟨by rfl, ?ay53⟩) T52 ?_
       case ay53 => (intro V hSw; go_simp; try with_reducible rfl)
       try simp only [pu0, puN, pu1, pu2, pu3]
       refine wpAnyH_take (i := 11) (oi := ({ dst := some 111, op := Op.extract (Operand.tmp 100) 0, type := 31, pos := "law.go:203", after := #[{ on := 10, ground := Ground.data }], guard := none } : Oper)) (v := ?av54) rfl (by kernel_rfl) (by kernel_rfl) (by kernel_rfl) (fun _ _ _ h => h) (Or.inl ⟨by rfl, ?ay54⟩) T52 ?_
       case ay54 => (intro V hSw; go_simp; try with_reducible rfl)
       try simp only [pu0, puN, pu1, pu2, pu3]
       refine wpAnyH_take (i := 12) (oi := ({ dst := some 112, op := Op.extract (Operand.tmp 100) 1, type := 4, pos := "law.go:203", after := #[{ on := 10, ground := Ground.data }, { on := 14, ground := Ground.gcOnly Departure.lateStores }], guard := none } : Oper)) (v := ?av55) rfl (by kernel_rfl) (by kernel_rfl) (by kernel_rfl) (fun _ _ _ h => h) (Or.inl ⟨by rfl, ?ay55⟩) T52 ?_
       case ay55 => (intro V hSw; go_simp; try with_reducible rfl)
       try simp only [pu0, puN, pu1, pu2, pu3]
       refine wpAnyH_ready (rs := [14]) (by kernel_rfl) (by simp) ?_
       refine (AllReadyH.cons (o := _) rfl (fun K hK => ?_) AllReadyH.nil)
       go_simp
       have n0 := kcells_of nb9 0
       have n1 := kcells_of nb9 1
       have nf := kfree_of nb9
       go_simp
       have NB := set2 nb9 (.int .i64 d) (.string t)
       have T56 := (T52.setCell (p := ⟨V1x.heap.size, 0, none⟩) (Nat.le_refl _) (.int .i64 d)).setCell (p := ⟨V1x.heap.size, 1, none⟩) (Nat.le_refl _) (.string t)
       try go_wp2_with fail
       refine hK.out _ _ T56 (fun hS56 => ?_)
       clear hK K
       try simp only [pu0, puN, pu1, pu2, pu3]
       refine wpAnyH_take (i := 15) (oi := ({ dst := some 22, op := Op.assign (Operand.tmp 112), type := 4, pos := "law.go:203", after := #[{ on := 12, ground := Ground.data }, { on := 14, ground := Ground.chain }, { on := 0, ground := Ground.phase }, { on := 1, ground := Ground.phase }, { on := 2, ground := Ground.phase }, { on := 3, ground := Ground.phase }, { on := 4, ground := Ground.phase }, { on := 5, ground := Ground.phase }, { on := 6, ground := Ground.phase }, { on := 7, ground := Ground.phase }, { on := 8, ground := Ground.phase }, { on := 9, ground := Ground.phase }, { on := 10, ground := Ground.phase }, { on := 11, ground := Ground.phase }, { on := 12, ground := Ground.phase }, { on := 13, ground := Ground.phase }, { on := 14, ground := Ground.phase }], guard := none } : Oper)) (v := ?av57) rfl (by kernel_rfl) (by kernel_rfl) (by kernel_rfl) (fun _ _ _ h => h) (Or.inl ⟨by rfl, ?ay57⟩) T56 ?_
       case ay57 => (intro V hSw; go_simp; try with_reducible rfl)
       try simp only [pu0, puN, pu1, pu2, pu3]
       refine wpAnyH_done (by kernel_rfl) ?_ _
       try go_wp2
       go_meet
       case rel => exact ⟨_, _, _, _, rfl, rfl, LL.out, T56, NB⟩
     obtain ⟨y2, dl2, tl2, ok2, rfl, rfl, hL, hb, hy⟩ := hcut
     obtain ⟨V2x, hV⟩ : ∃ x, x = wc := ⟨_, rfl⟩
     subst hV
     replace X := Lib.hid (X.out.trans (hb.mono X.out.size))
     replace Z := Lib.hid (Z.out.trans (hb.mono Z.out.size))
     replace Y1 := Lib.hid ((hb.block _ (lt_of_block Y1.out)).trans Y1.out)
     have LX2 := Lib.hid hL
     have Y2 := Lib.hid hy
     clear hL hy
     clear hb
     go_upto_region 19 with fail
     go_cut [143] (fun v wx => v = .bool false ∧ Below V2x.heap.size V2x wx)
     case first => as_aux_lemma =>
      have ek : ok1 = ok2 := by rw [Bool.eq_iff_iff, LX1.out.hok, LX2.out.hok]
      subst ek
      have ed : dl1 = dl2 ∧ tl1 = tl2 := by
       cases ok1 with
       | true =>
        refine pair_eq (LX1.out.heq rfl) ?_
        exact LX2.out.heq rfl
       | false => exact ⟨(LX1.out.hno rfl).1.trans (LX2.out.hno rfl).1.symm, (LX1.out.hno rfl).2.trans (LX2.out.hno rfl).2.symm⟩
      obtain ⟨ed1, ed2⟩ := ed
      subst ed1
      subst ed2
      have ca0 := (X.out.cell (p := ⟨bt, ot + i2 * 2, none⟩) hbt).trans CA.out.1
      have ca1 := (X.out.cell (p := ⟨bt, ot + i2 * 2 + 1, none⟩) hbt).trans CA.out.2
      have cb0 := (X.out.cell (p := ⟨bt, ot + k * 2, none⟩) hbt).trans CB.out.1
      have cb1 := (X.out.cell (p := ⟨bt, ot + k * 2 + 1, none⟩) hbt).trans CB.out.2
      have hbtw : bt < V2x.heap.size := Nat.lt_of_lt_of_le hbt X.out.size
      have n10 : V2x.cell? ⟨y1, 0, none⟩ = some (.int .i64 dl1) := kcells_of Y1.out 0
      have n11 : V2x.cell? ⟨y1, 1, none⟩ = some (.string tl1) := kcells_of Y1.out 1
      have hl1 := lt_of_block Y1.out
      have n20 : V2x.cell? ⟨y2, 0, none⟩ = some (.int .i64 dl1) := kcells_of Y2.out 0
      have n21 : V2x.cell? ⟨y2, 1, none⟩ = some (.string tl1) := kcells_of Y2.out 1
      have hl2 := lt_of_block Y2.out
      have q1 : ∀ V : World, (binOp .neq 31 (.agg #[.int .i64 dl1, .string tl1]) (.agg #[.int .i64 dl1, .string tl1])).run Tryz.prog V = .ok (.bool false) V := fun V => (neq31 dl1 dl1 tl1 tl1 V).trans (by simp)
      have q2 : (ok1 != ok1) = false := by simp
      have T0 := (Below.refl V2x.heap.size V2x).drew
      refine wp_region_held_drew (S := fun V => Below V2x.heap.size V2x V) (by kernel_rfl) T0 (fun hS0 => ?_)
      refine wpAnyH_take (i := 0) (oi := ({ dst := some 113, op := Op.load 31 (Operand.tmp 19), type := 31, pos := "law.go:204", after := #[], guard := none } : Oper)) (v := ?av58) rfl (by kernel_rfl) (by kernel_rfl) (by kernel_rfl) (fun _ _ _ h => h) (Or.inl ⟨by rfl, ?ay58⟩) T0 ?_
      case ay58 => (intro V hSw; have e1 := (hSw.cell (p := ⟨y1, 0, none⟩) hl1).trans n10; have e2 := (hSw.cell (p := ⟨y1, 1, none⟩) hl1).trans n11; go_simp; try with_reducible rfl)
      try simp only [pu0, puN, pu1, pu2, pu3]
      refine wpAnyH_take (i := 1) (oi := ({ dst := some 114, op := Op.load 31 (Operand.tmp 21), type := 31, pos := "law.go:204", after := #[], guard := none } : Oper)) (v := ?av59) rfl (by kernel_rfl) (by kernel_rfl) (by kernel_rfl) (fun _ _ _ h => h) (Or.inl ⟨by rfl, ?ay59⟩) T0 ?_
      case ay59 => (intro V hSw; have e1 := (hSw.cell (p := ⟨y2, 0, none⟩) hl2).trans n20; have e2 := (hSw.cell (p := ⟨y2, 1, none⟩) hl2).trans n21; go_simp; try with_reducible rfl)
      try simp only [pu0, puN, pu1, pu2, pu3]
      refine wpAnyH_take (i := 2) (oi := ({ dst := some 115, op := Op.binOp BinOp.neq 31 (Operand.tmp 113) (Operand.tmp 114) 31, type := 4, pos := "law.go:204", after := #[{ on := 0, ground := Ground.data }, { on := 1, ground := Ground.data }], guard := none } : Oper)) (v := ?av60) rfl (by kernel_rfl) (by kernel_rfl) (by kernel_rfl) (fun _ _ _ h => h) (Or.inl ⟨by rfl, ?ay60⟩) T0 ?_
      case ay60 => (intro V hSw; go_simp; try with_reducible rfl)
      try simp only [pu0, puN, pu1, pu2, pu3]
      refine wpAnyH_take (i := 3) (oi := ({ dst := some 116, op := Op.move (Operand.tmp 115), type := 4, pos := "law.go:204", after := #[{ on := 2, ground := Ground.data }], guard := none } : Oper)) (v := ?av61) rfl (by kernel_rfl) (by kernel_rfl) (by kernel_rfl) (fun _ _ _ h => h) (Or.inl ⟨by rfl, ?ay61⟩) T0 ?_
      case ay61 => (intro V hSw; go_simp; try with_reducible rfl)
      try simp only [pu0, puN, pu1, pu2, pu3]
      refine wpAnyH_take (i := 4) (oi := ({ dst := some 117, op := Op.move (Operand.tmp 20), type := 4, pos := "law.go:204", after := #[{ on := 3, ground := Ground.guard }], guard := some (3, false) } : Oper)) (v := ?av62) rfl (by kernel_rfl) (by kernel_rfl) (by kernel_rfl) (fun _ _ _ h => h) (Or.inl ⟨by rfl, ?ay62⟩) T0 ?_
      case ay62 => (intro V hSw; go_simp; try with_reducible rfl)
      try simp only [pu0, puN, pu1, pu2, pu3]
      refine wpAnyH_take (i := 5) (oi := ({ dst := some 118, op := Op.move (Operand.tmp 22), type := 4, pos := "law.go:204", after := #[{ on := 3, ground := Ground.guard }], guard := some (3, false) } : Oper)) (v := ?av63) rfl (by kernel_rfl) (by kernel_rfl) (by kernel_rfl) (fun _ _ _ h => h) (Or.inl ⟨by rfl, ?ay63⟩) T0 ?_
      case ay63 => (intro V hSw; go_simp; try with_reducible rfl)
      try simp only [pu0, puN, pu1, pu2, pu3]
      refine wpAnyH_take (i := 6) (oi := ({ dst := some 119, op := Op.binOp BinOp.neq 4 (Operand.tmp 117) (Operand.tmp 118) 4, type := 4, pos := "law.go:204", after := #[{ on := 4, ground := Ground.data }, { on := 5, ground := Ground.data }, { on := 3, ground := Ground.guard }], guard := some (3, false) } : Oper)) (v := ?av64) rfl (by kernel_rfl) (by kernel_rfl) (by kernel_rfl) (fun _ _ _ h => h) (Or.inl ⟨by rfl, ?ay64⟩) T0 ?_
      case ay64 => (intro V hSw; go_simp; try with_reducible rfl)
      try simp only [pu0, puN, pu1, pu2, pu3]
      refine wpAnyH_take (i := 7) (oi := ({ dst := some 120, op := Op.pick (Operand.tmp 116) (Operand.const (Value.bool true)) (Operand.tmp 119), type := 4, pos := "law.go:204", after := #[{ on := 3, ground := Ground.data }, { on := 6, ground := Ground.data }], guard := none } : Oper)) (v := ?av65) rfl (by kernel_rfl) (by kernel_rfl) (by kernel_rfl) (fun _ _ _ h => h) (Or.inl ⟨by rfl, ?ay65⟩) T0 ?_
      case ay65 => (intro V hSw; go_simp; try with_reducible rfl)
      try simp only [pu0, puN, pu1, pu2, pu3]
      refine wpAnyH_take (i := 8) (oi := ({ dst := some 121, op := Op.move (Operand.tmp 120), type := 4, pos := "law.go:204", after := #[{ on := 7, ground := Ground.data }, { on := 3, ground := Ground.chain }], guard := none } : Oper)) (v := ?av66) rfl (by kernel_rfl) (by kernel_rfl) (by kernel_rfl) (fun _ _ _ h => h) (Or.inl ⟨by rfl, ?ay66⟩) T0 ?_
      case ay66 => (intro V hSw; go_simp; try with_reducible rfl)
      try simp only [pu0, puN, pu1, pu2, pu3]
      refine wpAnyH_take (i := 9) (oi := ({ dst := some 122, op := Op.move (Operand.tmp 10), type := 32, pos := "law.go:204", after := #[{ on := 8, ground := Ground.guard }], guard := some (8, false) } : Oper)) (v := ?av67) rfl (by kernel_rfl) (by kernel_rfl) (by kernel_rfl) (fun _ _ _ h => h) (Or.inl ⟨by rfl, ?ay67⟩) T0 ?_
      case ay67 => (intro V hSw; go_simp; try with_reducible rfl)
      try simp only [pu0, puN, pu1, pu2, pu3]
      refine wpAnyH_take (i := 10) (oi := ({ dst := some 123, op := Op.move (Operand.tmp 16), type := 39, pos := "law.go:204", after := #[{ on := 8, ground := Ground.guard }], guard := some (8, false) } : Oper)) (v := ?av68) rfl (by kernel_rfl) (by kernel_rfl) (by kernel_rfl) (fun _ _ _ h => h) (Or.inl ⟨by rfl, ?ay68⟩) T0 ?_
      case ay68 => (intro V hSw; go_simp; try with_reducible rfl)
      try simp only [pu0, puN, pu1, pu2, pu3]
      refine wpAnyH_take (i := 11) (oi := ({ dst := some 124, op := Op.move (Operand.tmp 17), type := 3, pos := "law.go:204", after := #[{ on := 8, ground := Ground.guard }], guard := some (8, false) } : Oper)) (v := ?av69) rfl (by kernel_rfl) (by kernel_rfl) (by kernel_rfl) (fun _ _ _ h => h) (Or.inl ⟨by rfl, ?ay69⟩) T0 ?_
      case ay69 => (intro V hSw; go_simp; try with_reducible rfl)
      try simp only [pu0, puN, pu1, pu2, pu3]
      refine wpAnyH_take (i := 12) (oi := ({ dst := some 125, op := Op.indexAddr 39 (Operand.tmp 123) (Operand.tmp 124), type := 0, pos := "law.go:204", after := #[{ on := 10, ground := Ground.data }, { on := 11, ground := Ground.data }, { on := 8, ground := Ground.guard }], guard := some (8, false) } : Oper)) (v := ?av70) rfl (by kernel_rfl) (by kernel_rfl) (by kernel_rfl) (fun _ _ _ h => h) (Or.inl ⟨by rfl, ?ay70⟩) T0 ?_
      case ay70 => (intro V hSw; go_simp; try with_reducible rfl)
      try simp only [pu0, puN, pu1, pu2, pu3]
      refine wpAnyH_take (i := 13) (oi := ({ dst := some 126, op := Op.load 31 (Operand.tmp 125), type := 31, pos := "law.go:204", after := #[{ on := 12, ground := Ground.data }, { on := 8, ground := Ground.guard }], guard := some (8, false) } : Oper)) (v := ?av71) rfl (by kernel_rfl) (by kernel_rfl) (by kernel_rfl) (fun _ _ _ h => h) (Or.inl ⟨by rfl, ?ay71⟩) T0 ?_
      case ay71 => (intro V hSw; have e1 := (hSw.cell (p := ⟨bt, ot + i2 * 2, none⟩) hbtw).trans ca0; have e2 := (hSw.cell (p := ⟨bt, ot + i2 * 2 + 1, none⟩) hbtw).trans ca1; go_simp; try with_reducible rfl)
      try simp only [pu0, puN, pu1, pu2, pu3]
      refine wpAnyH_take (i := 14) (oi := ({ dst := some 127, op := Op.move (Operand.tmp 16), type := 39, pos := "law.go:204", after := #[{ on := 8, ground := Ground.guard }], guard := some (8, false) } : Oper)) (v := ?av72) rfl (by kernel_rfl) (by kernel_rfl) (by kernel_rfl) (fun _ _ _ h => h) (Or.inl ⟨by rfl, ?ay72⟩) T0 ?_
      case ay72 => (intro V hSw; go_simp; try with_reducible rfl)
      try simp only [pu0, puN, pu1, pu2, pu3]
      refine wpAnyH_take (i := 15) (oi := ({ dst := some 128, op := Op.move (Operand.tmp 18), type := 3, pos := "law.go:204", after := #[{ on := 8, ground := Ground.guard }], guard := some (8, false) } : Oper)) (v := ?av73) rfl (by kernel_rfl) (by kernel_rfl) (by kernel_rfl) (fun _ _ _ h => h) (Or.inl ⟨by rfl, ?ay73⟩) T0 ?_
      case ay73 => (intro V hSw; go_simp; try with_reducible rfl)
      try simp only [pu0, puN, pu1, pu2, pu3]
      refine wpAnyH_take (i := 16) (oi := ({ dst := some 129, op := Op.indexAddr 39 (Operand.tmp 127) (Operand.tmp 128), type := 0, pos := "law.go:204", after := #[{ on := 14, ground := Ground.data }, { on := 15, ground := Ground.data }, { on := 8, ground := Ground.guard }], guard := some (8, false) } : Oper)) (v := ?av74) rfl (by kernel_rfl) (by kernel_rfl) (by kernel_rfl) (fun _ _ _ h => h) (Or.inl ⟨by rfl, ?ay74⟩) T0 ?_
      case ay74 => (intro V hSw; go_simp; try with_reducible rfl)
      try simp only [pu0, puN, pu1, pu2, pu3]
      refine wpAnyH_take (i := 17) (oi := ({ dst := some 130, op := Op.load 31 (Operand.tmp 129), type := 31, pos := "law.go:204", after := #[{ on := 16, ground := Ground.data }, { on := 8, ground := Ground.guard }], guard := some (8, false) } : Oper)) (v := ?av75) rfl (by kernel_rfl) (by kernel_rfl) (by kernel_rfl) (fun _ _ _ h => h) (Or.inl ⟨by rfl, ?ay75⟩) T0 ?_
      case ay75 => (intro V hSw; have e1 := (hSw.cell (p := ⟨bt, ot + k * 2, none⟩) hbtw).trans cb0; have e2 := (hSw.cell (p := ⟨bt, ot + k * 2 + 1, none⟩) hbtw).trans cb1; go_simp; try with_reducible rfl)
      try simp only [pu0, puN, pu1, pu2, pu3]
      refine wpAnyH_take (i := 19) (oi := ({ dst := some 132, op := Op.move (Operand.tmp 13), type := 36, pos := "law.go:204", after := #[{ on := 8, ground := Ground.guard }], guard := some (8, false) } : Oper)) (v := ?av76) rfl (by kernel_rfl) (by kernel_rfl) (by kernel_rfl) (fun _ _ _ h => h) (Or.inl ⟨by rfl, ?ay76⟩) T0 ?_
      case ay76 => (intro V hSw; go_simp; try with_reducible rfl)
      try simp only [pu0, puN, pu1, pu2, pu3]
      refine wpAnyH_take (i := 20) (oi := ({ dst := some 133, op := Op.move (Operand.tmp 16), type := 39, pos := "law.go:204", after := #[{ on := 8, ground := Ground.guard }], guard := some (8, false) } : Oper)) (v := ?av77) rfl (by kernel_rfl) (by kernel_rfl) (by kernel_rfl) (fun _ _ _ h => h) (Or.inl ⟨by rfl, ?ay77⟩) T0 ?_
      case ay77 => (intro V hSw; go_simp; try with_reducible rfl)
      try simp only [pu0, puN, pu1, pu2, pu3]
      refine wpAnyH_take (i := 21) (oi := ({ dst := some 134, op := Op.move (Operand.tmp 17), type := 3, pos := "law.go:204", after := #[{ on := 8, ground := Ground.guard }], guard := some (8, false) } : Oper)) (v := ?av78) rfl (by kernel_rfl) (by kernel_rfl) (by kernel_rfl) (fun _ _ _ h => h) (Or.inl ⟨by rfl, ?ay78⟩) T0 ?_
      case ay78 => (intro V hSw; go_simp; try with_reducible rfl)
      try simp only [pu0, puN, pu1, pu2, pu3]
      refine wpAnyH_take (i := 22) (oi := ({ dst := some 135, op := Op.indexAddr 39 (Operand.tmp 133) (Operand.tmp 134), type := 0, pos := "law.go:204", after := #[{ on := 20, ground := Ground.data }, { on := 21, ground := Ground.data }, { on := 8, ground := Ground.guard }], guard := some (8, false) } : Oper)) (v := ?av79) rfl (by kernel_rfl) (by kernel_rfl) (by kernel_rfl) (fun _ _ _ h => h) (Or.inl ⟨by rfl, ?ay79⟩) T0 ?_
      case ay79 => (intro V hSw; go_simp; try with_reducible rfl)
      try simp only [pu0, puN, pu1, pu2, pu3]
      refine wpAnyH_take (i := 23) (oi := ({ dst := some 136, op := Op.load 31 (Operand.tmp 135), type := 31, pos := "law.go:204", after := #[{ on := 22, ground := Ground.data }, { on := 8, ground := Ground.guard }], guard := some (8, false) } : Oper)) (v := ?av80) rfl (by kernel_rfl) (by kernel_rfl) (by kernel_rfl) (fun _ _ _ h => h) (Or.inl ⟨by rfl, ?ay80⟩) T0 ?_
      case ay80 => (intro V hSw; have e1 := (hSw.cell (p := ⟨bt, ot + i2 * 2, none⟩) hbtw).trans ca0; have e2 := (hSw.cell (p := ⟨bt, ot + i2 * 2 + 1, none⟩) hbtw).trans ca1; go_simp; try with_reducible rfl)
      try simp only [pu0, puN, pu1, pu2, pu3]
      refine wpAnyH_take (i := 24) (oi := ({ dst := some 137, op := Op.move (Operand.tmp 16), type := 39, pos := "law.go:204", after := #[{ on := 8, ground := Ground.guard }], guard := some (8, false) } : Oper)) (v := ?av81) rfl (by kernel_rfl) (by kernel_rfl) (by kernel_rfl) (fun _ _ _ h => h) (Or.inl ⟨by rfl, ?ay81⟩) T0 ?_
      case ay81 => (intro V hSw; go_simp; try with_reducible rfl)
      try simp only [pu0, puN, pu1, pu2, pu3]
      refine wpAnyH_take (i := 25) (oi := ({ dst := some 138, op := Op.move (Operand.tmp 18), type := 3, pos := "law.go:204", after := #[{ on := 8, ground := Ground.guard }], guard := some (8, false) } : Oper)) (v := ?av82) rfl (by kernel_rfl) (by kernel_rfl) (by kernel_rfl) (fun _ _ _ h => h) (Or.inl ⟨by rfl, ?ay82⟩) T0 ?_
      case ay82 => (intro V hSw; go_simp; try with_reducible rfl)
      try simp only [pu0, puN, pu1, pu2, pu3]
      refine wpAnyH_take (i := 26) (oi := ({ dst := some 139, op := Op.indexAddr 39 (Operand.tmp 137) (Operand.tmp 138), type := 0, pos := "law.go:204", after := #[{ on := 24, ground := Ground.data }, { on := 25, ground := Ground.data }, { on := 8, ground := Ground.guard }], guard := some (8, false) } : Oper)) (v := ?av83) rfl (by kernel_rfl) (by kernel_rfl) (by kernel_rfl) (fun _ _ _ h => h) (Or.inl ⟨by rfl, ?ay83⟩) T0 ?_
      case ay83 => (intro V hSw; go_simp; try with_reducible rfl)
      try simp only [pu0, puN, pu1, pu2, pu3]
      refine wpAnyH_take (i := 27) (oi := ({ dst := some 140, op := Op.load 31 (Operand.tmp 139), type := 31, pos := "law.go:204", after := #[{ on := 26, ground := Ground.data }, { on := 8, ground := Ground.guard }], guard := some (8, false) } : Oper)) (v := ?av84) rfl (by kernel_rfl) (by kernel_rfl) (by kernel_rfl) (fun _ _ _ h => h) (Or.inl ⟨by rfl, ?ay84⟩) T0 ?_
      case ay84 => (intro V hSw; have e1 := (hSw.cell (p := ⟨bt, ot + k * 2, none⟩) hbtw).trans cb0; have e2 := (hSw.cell (p := ⟨bt, ot + k * 2 + 1, none⟩) hbtw).trans cb1; go_simp; try with_reducible rfl)
      try simp only [pu0, puN, pu1, pu2, pu3]
      refine wpAnyH_ready (rs := [18]) (by kernel_rfl) (by simp) ?_
      refine (AllReadyH.cons (o := _) rfl (fun K hK => ?_) AllReadyH.nil)
      go_simp
      go_at_call 23
      refine (Sub_any (HT.out.below ((X.out.trans (T0.mono X.out.size)).mono HT.out.hB)) (by exact hz1) (by exact hz2)).mono ?_
      rintro e P85 ⟨r1, rfl, hr1, hb85⟩
      have HR1 := Lib.hid hr1
      have T85 := T0.trans (hb85.mono T0.size)
      clear hr1
      try go_wp2_with fail
      refine hK.out _ _ T85 (fun hS85 => ?_)
      clear hK K
      try simp only [pu0, puN, pu1, pu2, pu3]
      refine wpAnyH_ready (rs := [28]) (by kernel_rfl) (by simp) ?_
      refine (AllReadyH.cons (o := _) rfl (fun K hK => ?_) AllReadyH.nil)
      go_simp
      go_at_call 24
      refine (RSub_any (HTU.out.link (X.out.trans (T85.mono X.out.size))) GD.out NOK.out d1 d2 s1 s2 (by exact hz1) (by exact hz2)).mono ?_
      rintro e P86 ⟨r2, rfl, hr2, hb86⟩
      obtain rfl : r1 = r2 := by rw [Bool.eq_iff_iff, HR1.out, hr2]
      have q3 : (r1 != r1) = false := by simp
      have T86 := T85.trans (hb86.mono T85.size)
      clear hr2
      try go_wp2_with fail
      refine hK.out _ _ T86 (fun hS86 => ?_)
      clear hK K
      try simp only [pu0, puN, pu1, pu2, pu3]
      refine wpAnyH_take (i := 29) (oi := ({ dst := some 142, op := Op.binOp BinOp.neq 4 (Operand.tmp 131) (Operand.tmp 141) 4, type := 4, pos := "law.go:204", after := #[{ on := 18, ground := Ground.data }, { on := 28, ground := Ground.data }, { on := 8, ground := Ground.guard }], guard := some (8, false) } : Oper)) (v := ?av87) rfl (by kernel_rfl) (by kernel_rfl) (by kernel_rfl) (fun _ _ _ h => h) (Or.inl ⟨by rfl, ?ay87⟩) T86 ?_
      case ay87 => (intro V hSw; go_simp; try with_reducible rfl)
      try simp only [pu0, puN, pu1, pu2, pu3]
      refine wpAnyH_take (i := 30) (oi := ({ dst := some 143, op := Op.pick (Operand.tmp 121) (Operand.const (Value.bool true)) (Operand.tmp 142), type := 4, pos := "law.go:204", after := #[{ on := 8, ground := Ground.data }, { on := 29, ground := Ground.data }], guard := none } : Oper)) (v := ?av88) rfl (by kernel_rfl) (by kernel_rfl) (by kernel_rfl) (fun _ _ _ h => h) (Or.inl ⟨by rfl, ?ay88⟩) T86 ?_
      case ay88 => (intro V hSw; go_simp; try with_reducible rfl)
      try simp only [pu0, puN, pu1, pu2, pu3]
      refine wpAnyH_done (by kernel_rfl) ?_ _
      try go_wp2
      go_meet
      case rel => exact ⟨rfl, T86⟩
     obtain ⟨rfl, hb⟩ := hcut
     obtain ⟨V3x, hV⟩ : ∃ x, x = wc := ⟨_, rfl⟩
     subst hV
     replace X := Lib.hid (X.out.trans (hb.mono X.out.size))
     replace Z := Lib.hid (Z.out.trans (hb.mono Z.out.size))
     replace Y1 := Lib.hid ((hb.block _ (lt_of_block Y1.out)).trans Y1.out)
     replace Y2 := Lib.hid ((hb.block _ (lt_of_block Y2.out)).trans Y2.out)
     clear hb
     go_wp2
     go_roundg (g2 - 1)
     case measure => exact hg3
     case rel => exact ⟨k + 1, by go_num, by omega, Z.out⟩
    ·have hkq2 : Q ≤ k := by omega
     clear hkq
     go_wp2
     go_roundg (g1 - 1)
     case measure => exact hg2
     case rel => exact ⟨i2 + 1, by go_num, by omega, X.out⟩
  ·have hiq2 : Q ≤ i2 := by omega
   have BZ := Lib.hid (BWU.out.trans (X.out.mono BWU.out.size))
   clear hiq
   go_wp2
   go_ret
   exact ⟨rfl, BZ.out⟩
end Go.Proofs.YtmaknddlgppinaaGreatDoor
