/-
  WALK of LatticeGrows.
-/
import Derived.Test.YtmaknddlgppinaaGreatDoorZMq
import Derived.Test.YtmaknddlgppinaaGreatDoorZ42
import Derived.Test.YtmaknddlgppinaaGreatDoorZMs
import Derived.Deep.CutBlock
set_option linter.unusedVariables false
set_option linter.unusedSimpArgs false
namespace Go.Proofs.YtmaknddlgppinaaGreatDoor
open Go.RowKit

/-- The state that the law makes, in its box at sb. -/
structure GB (U : World) (sb : Nat) (x y : Value) (la sa : List KQ) (W : World) : Prop where
 box : W.heap[sb]? = some (.cells #[x, y] 75 (0, 0))
 ox : W.ownsRow U.heap.size 64 4 x la.length (kcells la)
 oy : W.ownsRow U.heap.size 64 4 y sa.length (kcells sa)
 sep : HSep x y
 inx : ∀ q ∈ la, q ∈ kq17
 iny : ∀ q ∈ sa, q ∈ kq17
 below : Below U.heap.size U W
theorem GB.next {U W W' : World} {sb : Nat} {x y : Value} {la sa : List KQ} (h : GB U sb x y la sa W) (hb : Below W.heap.size W W') : GB U sb x y la sa W' :=
 ⟨(hb.block _ (lt_of_block h.box)).trans h.box, hown_below h.ox hb, hown_below h.oy hb, h.sep, h.inx, h.iny, Below.hlink h.below hb⟩
theorem GB.drew {U W : World} {sb : Nat} {x y : Value} {la sa : List KQ} (h : GB U sb x y la sa W) : GB U sb x y la sa W.drew :=
 ⟨h.box, h.ox, h.oy, h.sep, h.inx, h.iny, h.below.drew⟩
/-- What append does to it, ahead of the store. -/
structure GA (U : World) (sb : Nat) (x y : Value) (lo : List KQ) (other : Value) (v' : Value) (l' : List KQ) (W : World) : Prop where
 box : W.heap[sb]? = some (.cells #[x, y] 75 (0, 0))
 own : W.ownsRow U.heap.size 64 4 v' l'.length (kcells l')
 oth : W.ownsRow U.heap.size 64 4 other lo.length (kcells lo)
 sep : HSep v' other
 below : Below U.heap.size U W

/-- A place of an own row. -/
theorem own_some {w : World} {base n c : Nat} {q : Option Addr} {xs : List Value} (h : w.ownsRow base 64 4 (.slice q n c) n xs) (hn : 0 < n) : ∃ g, q = some ⟨g, 0, none⟩ ∧ base ≤ g ∧ ∃ cur, w.heap[g]? = some (.cells cur 64 (0, 0)) ∧ n * 4 ≤ cur.size := by
 rcases h.2 with ⟨_, h0⟩ | ⟨g, cap, cur, e, hb, hg, hc, _, hs, _⟩
 ·omega
 ·injection e with e1 e2 e3
  exact ⟨g, e1, hb, cur, hg, by omega⟩
theorem own_plc {w : World} {base e size n : Nat} {v : Value} {xs : List Value} (h : w.ownsRow base e size v n xs) : Plc v := by
 rcases h.2 with ⟨rfl, _⟩ | ⟨g, cap, cur, rfl, _⟩
 ·exact ⟨none, 0, 0, rfl, .inl rfl⟩
 ·exact ⟨_, n, cap, rfl, .inr ⟨g, 0, rfl⟩⟩
theorem KRow.nx {w w' : World} {v : Value} {l : List KQ} (h : KRow w.heap.size w v l) (hb : Below w.heap.size w w') : KRow w'.heap.size w' v l := (h.below hb).more hb.size
/-- The state s, in its box. -/
structure GS (U : World) (sb lo h t : Nat) (x y : Value) (la sa : List KQ) (W : World) : Prop where
 box : W.heap[sb]? = some (.cells #[x, y] 75 (0, 0))
 rx : KRow W.heap.size W x la
 ry : KRow W.heap.size W y sa
 px : Plc x
 py : Plc y
 ll : la.length = lo
 ls : sa.length = h
 inx : In19 la
 iny : In19 sa
 okx : OkL la
 oky : OkL sa
 tot : t + sumH la + sumH sa ≤ 6 * (h + lo)
 below : Below U.heap.size U W
theorem GS.next {U W W' : World} {sb lo h t : Nat} {x y : Value} {la sa : List KQ} (g : GS U sb lo h t x y la sa W) (hb : Below W.heap.size W W') : GS U sb lo h t x y la sa W' :=
 ⟨(hb.block _ (lt_of_block g.box)).trans g.box, (g.rx.below hb).more hb.size, (g.ry.below hb).more hb.size, g.px, g.py, g.ll, g.ls, g.inx, g.iny, g.okx, g.oky, g.tot, Below.hlink g.below hb⟩
/-- The clone, in its box. -/
structure GO (V : World) (ob : Nat) (v1 v2 : Value) (lb sc : List KQ) (W : World) : Prop where
 box : W.heap[ob]? = some (.cells #[v1, v2] 75 (0, 0))
 o1 : W.ownsRow V.heap.size 64 4 v1 lb.length (kcells lb)
 o2 : W.ownsRow V.heap.size 64 4 v2 sc.length (kcells sc)
 sep : HSep v1 v2
 inx : In19 lb ∧ OkL lb
 iny : In19 sc ∧ OkL sc
 below : Below V.heap.size V W
theorem GO.next {V W W' : World} {ob : Nat} {v1 v2 : Value} {lb sc : List KQ} (g : GO V ob v1 v2 lb sc W) (hb : Below W.heap.size W W') : GO V ob v1 v2 lb sc W' :=
 ⟨(hb.block _ (lt_of_block g.box)).trans g.box, hown_below g.o1 hb, hown_below g.o2 hb, g.sep, g.inx, g.iny, Below.hlink g.below hb⟩
theorem GO.drew {V W : World} {ob : Nat} {v1 v2 : Value} {lb sc : List KQ} (g : GO V ob v1 v2 lb sc W) : GO V ob v1 v2 lb sc W.drew :=
 ⟨g.box, g.o1, g.o2, g.sep, g.inx, g.iny, g.below.drew⟩
/-- What a region reads that writes a place of the clone. -/
structure GR (V : World) (ob : Nat) (v1 v2 : Value) (b o bl ol : Nat) (vl : Value) (z : Int) (W : World) : Prop where
 box : W.heap[ob]? = some (.cells #[v1, v2] 75 (0, 0))
 cl : W.cell? ⟨b, o, none⟩ = some vl
 cz : W.cell? ⟨bl, ol, none⟩ = some (.int .i64 z)
 below : Below V.heap.size V W
theorem in19_set {l : List KQ} {q : KQ} {i : Nat} (h : In19 l ∧ OkL l) (hq : q ∈ kq17) : In19 (l.set i q) ∧ OkL (l.set i q) := by
 have a := in19_17 (l := [q]) (fun x hx => by rw [List.mem_singleton.1 hx]; exact hq)
 have b := okl17 (l := [q]) (fun x hx => by rw [List.mem_singleton.1 hx]; exact hq)
 refine ⟨fun x hx => ?_, fun x hx => ?_⟩
 ·rcases List.mem_or_eq_of_mem_set hx with hx | rfl
  ·exact h.1 x hx
  ·exact a _ (by simp)
 ·rcases List.mem_or_eq_of_mem_set hx with hx | rfl
  ·exact h.2 x hx
  ·exact b _ (by simp)

theorem own_set_blk {w : World} {base e size n : Nat} {v : Value} {xs : List Value} (h : w.ownsRow base e size v n xs) {b : Nat} (hn : v.ownBlock ≠ some b) (i : Nat) (u : Value) : (w.setCell ⟨b, i, none⟩ u).ownsRow base e size v n xs := by
 refine ⟨h.1, ?_⟩
 rcases h.2 with h2 | ⟨g, cap, cur, rfl, hb, hg, hr⟩
 ·exact .inl h2
 ·exact .inr ⟨g, cap, cur, rfl, hb, (Below.heap_setCell _ _ _ _ (by intro e; exact hn (by show some g = some b; rw [show g = b from e]))).trans hg, hr⟩
def put4 (w : World) (g i : Nat) (q : KQ) : World := (((w.setCell ⟨g, i * 4, none⟩ (.int .i64 q.1)).setCell ⟨g, i * 4 + 1, none⟩ (.int .i64 q.2.1)).setCell ⟨g, i * 4 + 2, none⟩ (.string q.2.2.1)).setCell ⟨g, i * 4 + 3, none⟩ (.int .i64 q.2.2.2)
theorem GO.put2 {V P : World} {ob g d k : Nat} {v1 : Value} {lb sc : List KQ} {q : KQ} (h : GO V ob v1 (.slice (some ⟨g, 0, none⟩) sc.length d) lb sc P) (hk : k < sc.length) (hq : q ∈ kq17) : GO V ob v1 (.slice (some ⟨g, 0, none⟩) sc.length d) lb (sc.set k q) (put4 P g k q) := by
 obtain ⟨g', e, hg, cur, hc, _⟩ := own_some h.o2 (by omega)
 cases e
 have hne : ob ≠ g := fun e => by
  subst e
  have := h.box.symm.trans hc
  simp at this
 have hn1 : v1.ownBlock ≠ some g := fun e => h.sep g e rfl
 refine ⟨?_, ?_, ?_, h.sep, h.inx, in19_set h.iny hq, ?_⟩
 ·exact (Below.heap_setCell _ _ _ _ hne).trans ((Below.heap_setCell _ _ _ _ hne).trans ((Below.heap_setCell _ _ _ _ hne).trans ((Below.heap_setCell _ _ _ _ hne).trans h.box)))
 ·exact own_set_blk (own_set_blk (own_set_blk (own_set_blk h.o1 hn1 _ _) hn1 _ _) hn1 _ _) hn1 _ _
 ·rw [List.length_set]
  exact own_put h.o2 q hk
 ·exact (((h.below.setCell (p := ⟨g, k * 4, none⟩) hg _).setCell (p := ⟨g, k * 4 + 1, none⟩) hg _).setCell (p := ⟨g, k * 4 + 2, none⟩) hg _).setCell (p := ⟨g, k * 4 + 3, none⟩) hg _
theorem GO.put1 {V P : World} {ob g d k : Nat} {v2 : Value} {lb sc : List KQ} {q : KQ} (h : GO V ob (.slice (some ⟨g, 0, none⟩) lb.length d) v2 lb sc P) (hk : k < lb.length) (hq : q ∈ kq17) : GO V ob (.slice (some ⟨g, 0, none⟩) lb.length d) v2 (lb.set k q) sc (put4 P g k q) := by
 obtain ⟨g', e, hg, cur, hc, _⟩ := own_some h.o1 (by omega)
 cases e
 have hne : ob ≠ g := fun e => by
  subst e
  have := h.box.symm.trans hc
  simp at this
 have hn1 : v2.ownBlock ≠ some g := h.sep g rfl
 refine ⟨?_, ?_, ?_, h.sep, in19_set h.inx hq, h.iny, ?_⟩
 ·exact (Below.heap_setCell _ _ _ _ hne).trans ((Below.heap_setCell _ _ _ _ hne).trans ((Below.heap_setCell _ _ _ _ hne).trans ((Below.heap_setCell _ _ _ _ hne).trans h.box)))
 ·rw [List.length_set]
  exact own_put h.o1 q hk
 ·exact own_set_blk (own_set_blk (own_set_blk (own_set_blk h.o2 hn1 _ _) hn1 _ _) hn1 _ _) hn1 _ _
 ·exact (((h.below.setCell (p := ⟨g, k * 4, none⟩) hg _).setCell (p := ⟨g, k * 4 + 1, none⟩) hg _).setCell (p := ⟨g, k * 4 + 2, none⟩) hg _).setCell (p := ⟨g, k * 4 + 3, none⟩) hg _

set_option maxRecDepth 1000000 in
set_option maxHeartbeats 100000000 in
theorem grows_any {w : World} (hN : Blt w) {B0 : Nat} (hgt0 loc : Int) (ls : List (List Int)) (v : Value) (hh0 : B64 hgt0) (hl0 : B64 loc) (hi : IIRow B0 w v ls) (hl : ∀ l ∈ ls, ∀ z ∈ l, B64 z) (hB : B0 ≤ w.heap.size) :
  Calls Tryz.prog 12 #[.int .i64 hgt0, .int .i64 loc, v] w fun e w' => e = .returned (.bool true) ∧ Below w.heap.size w w' := by
 have HN := Lib.hid hN
 have HL := Lib.hid hl
 have I0 := Lib.hid hi
 have Q1 := Lib.hid hh0
 have Q2 := Lib.hid hl0
 obtain ⟨i64, hi64, hz64, hs64, hy64⟩ := info64
 clear hN hi hl hh0 hl0
 go_enter Tryz.func12, Tryz.ntmps12
 go_wp2_with fail
 refine (shown7_any HN.out).mono ?_
 rintro e w1 ⟨rfl, b1⟩
 have B1 := Lib.hid b1
 clear b1
 go_wp2_with fail
 refine (tables7_any (HN.out.below B1.out)).mono ?_
 rintro e U ⟨Bt, nb, mb, A, cap, cl, sl, S, pu, rfl, ht, b2⟩
 have BU := Lib.hid (Below.hlink B1.out b2)
 have HT := Lib.hid ht
 have HI := Lib.hid ((I0.out.keep (fun p hp => BU.out.cell (Nat.lt_of_lt_of_le hp hB))).more (Nat.le_trans hB BU.out.size))
 clear ht b2 B1 HN I0
 go_wp2_with fail
 refine (pick7_any hgt0 5 _ Q1.out (by decide) (by decide)).mono ?_
 rintro e w2 ⟨rfl, hw2⟩
 rw [hw2]
 clear hw2 w2
 obtain ⟨h, hh⟩ : ∃ h, h = pick7 hgt0 5 := ⟨_, rfl⟩
 have hh4 : h < 5 := by rw [hh]; exact pick7_lt hgt0 (by decide)
 rw [← hh]
 clear hh
 go_wp2_with fail
 refine (pick7_any loc 5 _ Q2.out (by decide) (by decide)).mono ?_
 rintro e w3 ⟨rfl, hw3⟩
 rw [hw3]
 clear hw3 w3
 obtain ⟨lo, hlo0⟩ : ∃ h, h = pick7 loc 5 := ⟨_, rfl⟩
 have hlo4 : lo < 5 := by rw [hlo0]; exact pick7_lt loc (by decide)
 rw [← hlo0]
 clear hlo0
 go_upto_region 9 with fail
 go_cut [10] (fun va wx => ∃ sb, va = .pointer (some ⟨sb, 0, none⟩) ∧ U.heap.size ≤ sb ∧ GB U sb (.slice none 0 0) (.slice none 0 0) [] [] wx)
 case first =>
  go_wp2
  go_meet
  case rel => exact ⟨_, rfl, Nat.le_refl _, hheap_new _ _, World.ownsRow_nil _ _ _ _, World.ownsRow_nil _ _ _ _, HSep.nil _, (fun q hq => by cases hq), (fun q hq => by cases hq), (Below.refl _ _).alloc (Nat.le_refl _) _⟩
 obtain ⟨sb, rfl, hsb, hgb⟩ := hcut
 obtain ⟨V1, hV⟩ : ∃ x, x = wc := ⟨_, rfl⟩
 subst hV
 have G0 := Lib.hid hgb
 clear hgb
 go_upto_block 0 with fail
 go_cut [11] (fun va wx => ∃ (y : Value) (sa : List KQ), sa.length = h ∧ GB U sb (.slice none 0 0) y [] sa wx)
 case first => as_aux_lemma =>
  go_wp2
  go_loopg [11] h (fun g iv wx => ∃ (i : Nat) (y : Value) (sa : List KQ), iv = .int .i64 i ∧ i + g = h ∧ sa.length = i ∧ GB U sb (.slice none 0 0) y [] sa wx)
  case atStart => exact ⟨0, _, _, rfl, by omega, rfl, G0.out⟩
  case round =>
   obtain ⟨i, y, sa, rfl, hig, hlen, hgb⟩ := hrel
   obtain ⟨gi, hgn⟩ : ∃ g, g = gk := ⟨_, rfl⟩
   subst hgn
   obtain ⟨V2, hV⟩ : ∃ x, x = wr := ⟨_, rfl⟩
   subst hV
   have GG := Lib.hid hgb
   have LEN := Lib.hid hlen
   have hl5 : sa.length < 5 + 1 := by omega
   clear hgb hlen
   by_cases hiq : i < h
   ·have hgx : gi - 1 < gi := by omega
    have e1 : decide ((i : Int) < (h : Int)) = true := decide_eq_true (by omega)
    have wi : IntKind.i64.wrap ((7 : Int) + (i : Int)) = (7 : Int) + (i : Int) := IntWalk.i64_in _ (by omega)
    have wi1 : IntKind.i64.wrap ((i : Int) + 1) = ((i + 1 : Nat) : Int) := by rw [IntWalk.i64_in _ (by omega)]; omega
    obtain ⟨qo, co, rfl⟩ := hown_form GG.out.oy
    go_upto_region 13 with fail
    have GD := Lib.hid GG.out.drew
    have T0 := GD.out.below
    refine wp_region_held_drew (S := fun W => Below U.heap.size U W) (by kernel_rfl) T0 (fun hS0 => ?_)
    refine wpAnyH_take (i := 0) (oi := ({ dst := some 43, op := .fieldAddr 75 (.tmp 10) 1, type := 0, pos := "law.go:188", after := #[], guard := none } : Oper)) (v := ?av1) rfl (by kernel_rfl) (by kernel_rfl) (by kernel_rfl) (fun _ _ _ h => h) (Or.inl ⟨by rfl, ?ay1⟩) T0 ?_
    case ay1 => (intro V hSw; go_simp; try with_reducible rfl)
    try simp only [Act.put, List.setIfInBounds_toArray, List.set_cons_zero, List.set_cons_succ]
    refine wpAnyH_take (i := 2) (oi := ({ dst := some 45, op := .move (.tmp 11), type := 3, pos := "law.go:188", after := #[], guard := none } : Oper)) (v := ?av2) rfl (by kernel_rfl) (by kernel_rfl) (by kernel_rfl) (fun _ _ _ h => h) (Or.inl ⟨by rfl, ?ay2⟩) T0 ?_
    case ay2 => (intro V hSw; go_simp; try with_reducible rfl)
    try simp only [Act.put, List.setIfInBounds_toArray, List.set_cons_zero, List.set_cons_succ]
    refine wpAnyH_take (i := 3) (oi := ({ dst := some 46, op := .binOp .add 3 (.const (.int .i64 7)) (.tmp 45) 3, type := 3, pos := "law.go:188", after := #[⟨2, .data⟩], guard := none } : Oper)) (v := ?av3) rfl (by kernel_rfl) (by kernel_rfl) (by kernel_rfl) (fun _ _ _ h => h) (Or.inl ⟨by rfl, ?ay3⟩) T0 ?_
    case ay3 => (intro V hSw; go_simp; try with_reducible rfl)
    try simp only [Act.put, List.setIfInBounds_toArray, List.set_cons_zero, List.set_cons_succ]
    refine wpAnyH_ready (rs := [1, 4]) (by kernel_rfl) (by simp) ?_
    refine (AllReadyH.cons (o := _) rfl (fun K hK => ?_) (AllReadyH.cons (o := _) rfl (fun K hK => ?_) AllReadyH.nil))
    ·have m4 := kcells_of GD.out.box 1
     simp only [List.getElem?_toArray, List.getElem?_cons_succ, List.getElem?_cons_zero] at m4
     go_simp
     have T4 := T0
     clear m4
     try go_wp2_with fail
     refine hK.out _ _ T4 (fun hS4 => ?_)
     clear hK K
     try simp only [Act.put, List.setIfInBounds_toArray, List.set_cons_zero, List.set_cons_succ]
     refine wpAnyH_ready (rs := [4]) (by kernel_rfl) (by simp) ?_
     refine (AllReadyH.cons (o := _) rfl (fun K hK => ?_) AllReadyH.nil)
     go_simp
     refine (known_q _ (show B64 ((7 : Int) + (i : Int)) from ⟨by omega, by omega⟩) _).mono ?_
     rintro e P5 ⟨kk, dd, nn, ss, hm, rfl, hb5⟩
     have HM := Lib.hid hm
     have G5 := Lib.hid (GD.out.next hb5)
     have T5 := G5.out.below
     clear hm hb5
     try go_wp2_with fail
     refine hK.out _ _ T5 (fun hS5 => ?_)
     clear hK K
     try simp only [Act.put, List.setIfInBounds_toArray, List.set_cons_zero, List.set_cons_succ]
     refine wpAnyH_ready (rs := [5]) (by kernel_rfl) (by simp) ?_
     refine (AllReadyH.cons (o := _) rfl (fun K hK => ?_) AllReadyH.nil)
     go_simp
     have T6 := T5.alloc T5.size (.cells #[.int .i64 kk, .int .i64 dd, .string ss, .int .i64 nn] 64)
     try go_wp2_with fail
     refine hK.out _ _ T6 (fun hS6 => ?_)
     clear hK K
     try simp only [Act.put, List.setIfInBounds_toArray, List.set_cons_zero, List.set_cons_succ]
     refine wpAnyH_ready (rs := [6]) (by kernel_rfl) (by simp) ?_
     refine (AllReadyH.cons (o := _) rfl (fun K hK => ?_) AllReadyH.nil)
     refine hstep_append_own2 rfl (.tmp 44) (.tmp 48) 60 rfl U.heap.size 64 i64 (.agg #[.int .i64 0, .int .i64 0, .string ⟨#[]⟩, .int .i64 0]) 4 40 und60 hi64 hz64 hs64 hy64 rfl (by decide) (.slice qo sa.length co) sa.length _ rfl (World.ownsRow.alloc G5.out.oy _) ⟨_, 0, none⟩ 1 1 [.int .i64 kk, .int .i64 dd, .string ss, .int .i64 nn] rfl rfl (knew_at _ [.int .i64 kk, .int .i64 dd, .string ss, .int .i64 nn] 64 _ (by simp)) (fun u hu => by simp at hu; rcases hu with rfl | rfl | rfl | rfl <;> rfl) (by unfold maxLen; omega) (by omega) (by have := G5.out.below.size; simp; omega) ?_
     intro v5 w5 own5 hg5 hm5
     have T7 := Below.grown T6 hg5 (by exact T6.size) (fun q hq => hown_block_ge G5.out.oy q hq)
     have OO := Lib.hid (hown_grown_other (World.ownsRow.alloc G5.out.ox _) G5.out.sep.turn hg5)
     have SP := Lib.hid (HSep.moved G5.out.sep.turn hm5 (World.ownsRow.alloc G5.out.ox _))
     have BX := Lib.hid (box_grown (hheap_alloc_lt G5.out.box) (World.ownsRow.alloc G5.out.oy _) hg5 (by decide))
     obtain ⟨a5, c5, rfl⟩ := hown_form own5
     have OW := Lib.hid own5
     clear own5 hg5 hm5
     try go_simp
     try go_wp2_with fail
     refine hK.out _ _ T7 (fun hS7 => ?_)
     clear hK K
     try simp only [Act.put, List.setIfInBounds_toArray, List.set_cons_zero, List.set_cons_succ]
     refine wpAnyH_take (i := 7) (oi := ({ dst := some 50, op := .fieldAddr 75 (.tmp 10) 1, type := 0, pos := "law.go:188", after := #[⟨0, .phase⟩, ⟨1, .phase⟩, ⟨2, .phase⟩, ⟨3, .phase⟩, ⟨4, .phase⟩, ⟨5, .phase⟩, ⟨6, .phase⟩], guard := none } : Oper)) (v := ?av8) rfl (by kernel_rfl) (by kernel_rfl) (by kernel_rfl) (fun _ _ _ h => h) (Or.inl ⟨by rfl, ?ay8⟩) T7 ?_
     case ay8 => (intro V hSw; go_simp; try with_reducible rfl)
     try simp only [Act.put, List.setIfInBounds_toArray, List.set_cons_zero, List.set_cons_succ]
     refine wpAnyH_ready (rs := [8]) (by kernel_rfl) (by simp) ?_
     refine (AllReadyH.cons (o := _) rfl (fun K hK => ?_) AllReadyH.nil)
     have t0 := kcells_of BX.out 0
     have t1 := kcells_of BX.out 1
     have tf := kfree_of BX.out
     have htl := lt_of_block BX.out
     simp only [List.getElem?_toArray, List.getElem?_cons_succ, List.getElem?_cons_zero] at t0 t1
     go_simp
     have T9 := T7.setCell (p := ⟨sb, 1, none⟩) hsb (.slice a5 (sa.length + 1) c5)
     try go_wp2_with fail
     refine hK.out _ _ T9 (fun hS9 => ?_)
     clear hK K
     try simp only [Act.put, List.setIfInBounds_toArray, List.set_cons_zero, List.set_cons_succ]
     refine wpAnyH_done (by kernel_rfl) ?_ _
     go_wp2
     go_roundg (gi - 1)
     case measure => exact hgx
     case rel => exact ⟨i + 1, (.slice a5 (sa.length + 1) c5), sa ++ [(kk, dd, ss, nn)], by go_num, by omega, by have := LEN.out; simp; omega, ⟨by first | exact heap_set_eq BX.out | (rw [heap_set_eq BX.out]; rfl), own_set_ty OO.out BX.out (by decide) 1 (.slice a5 (sa.length + 1) c5), by rw [List.length_append, kcells_app]; exact own_set_ty OW.out BX.out (by decide) 1 (.slice a5 (sa.length + 1) c5), SP.out.turn, GG.out.inx, fun q hq => by rcases List.mem_append.1 hq with hq | hq; exact GG.out.iny q hq; rw [List.mem_singleton.1 hq]; exact HM.out, T9⟩⟩
    ·go_simp
     refine (known_q _ (show B64 ((7 : Int) + (i : Int)) from ⟨by omega, by omega⟩) _).mono ?_
     rintro e P10 ⟨kk, dd, nn, ss, hm, rfl, hb10⟩
     have HM := Lib.hid hm
     have G10 := Lib.hid (GD.out.next hb10)
     have T10 := G10.out.below
     clear hm hb10
     try go_wp2_with fail
     refine hK.out _ _ T10 (fun hS10 => ?_)
     clear hK K
     try simp only [Act.put, List.setIfInBounds_toArray, List.set_cons_zero, List.set_cons_succ]
     refine wpAnyH_ready (rs := [1, 5]) (by kernel_rfl) (by simp) ?_
     refine (AllReadyH.cons (o := _) rfl (fun K hK => ?_) (AllReadyH.cons (o := _) rfl (fun K hK => ?_) AllReadyH.nil))
     ·have m11 := kcells_of G10.out.box 1
      simp only [List.getElem?_toArray, List.getElem?_cons_succ, List.getElem?_cons_zero] at m11
      go_simp
      have T11 := T10
      clear m11
      try go_wp2_with fail
      refine hK.out _ _ T11 (fun hS11 => ?_)
      clear hK K
      try simp only [Act.put, List.setIfInBounds_toArray, List.set_cons_zero, List.set_cons_succ]
      refine wpAnyH_ready (rs := [5]) (by kernel_rfl) (by simp) ?_
      refine (AllReadyH.cons (o := _) rfl (fun K hK => ?_) AllReadyH.nil)
      go_simp
      have T12 := T11.alloc T11.size (.cells #[.int .i64 kk, .int .i64 dd, .string ss, .int .i64 nn] 64)
      try go_wp2_with fail
      refine hK.out _ _ T12 (fun hS12 => ?_)
      clear hK K
      try simp only [Act.put, List.setIfInBounds_toArray, List.set_cons_zero, List.set_cons_succ]
      refine wpAnyH_ready (rs := [6]) (by kernel_rfl) (by simp) ?_
      refine (AllReadyH.cons (o := _) rfl (fun K hK => ?_) AllReadyH.nil)
      refine hstep_append_own2 rfl (.tmp 44) (.tmp 48) 60 rfl U.heap.size 64 i64 (.agg #[.int .i64 0, .int .i64 0, .string ⟨#[]⟩, .int .i64 0]) 4 40 und60 hi64 hz64 hs64 hy64 rfl (by decide) (.slice qo sa.length co) sa.length _ rfl (World.ownsRow.alloc G10.out.oy _) ⟨_, 0, none⟩ 1 1 [.int .i64 kk, .int .i64 dd, .string ss, .int .i64 nn] rfl rfl (knew_at _ [.int .i64 kk, .int .i64 dd, .string ss, .int .i64 nn] 64 _ (by simp)) (fun u hu => by simp at hu; rcases hu with rfl | rfl | rfl | rfl <;> rfl) (by unfold maxLen; omega) (by omega) (by have := G10.out.below.size; simp; omega) ?_
      intro v5 w5 own5 hg5 hm5
      have T13 := Below.grown T12 hg5 (by exact T12.size) (fun q hq => hown_block_ge G10.out.oy q hq)
      have OO := Lib.hid (hown_grown_other (World.ownsRow.alloc G10.out.ox _) G10.out.sep.turn hg5)
      have SP := Lib.hid (HSep.moved G10.out.sep.turn hm5 (World.ownsRow.alloc G10.out.ox _))
      have BX := Lib.hid (box_grown (hheap_alloc_lt G10.out.box) (World.ownsRow.alloc G10.out.oy _) hg5 (by decide))
      obtain ⟨a5, c5, rfl⟩ := hown_form own5
      have OW := Lib.hid own5
      clear own5 hg5 hm5
      try go_simp
      try go_wp2_with fail
      refine hK.out _ _ T13 (fun hS13 => ?_)
      clear hK K
      try simp only [Act.put, List.setIfInBounds_toArray, List.set_cons_zero, List.set_cons_succ]
      refine wpAnyH_take (i := 7) (oi := ({ dst := some 50, op := .fieldAddr 75 (.tmp 10) 1, type := 0, pos := "law.go:188", after := #[⟨0, .phase⟩, ⟨1, .phase⟩, ⟨2, .phase⟩, ⟨3, .phase⟩, ⟨4, .phase⟩, ⟨5, .phase⟩, ⟨6, .phase⟩], guard := none } : Oper)) (v := ?av14) rfl (by kernel_rfl) (by kernel_rfl) (by kernel_rfl) (fun _ _ _ h => h) (Or.inl ⟨by rfl, ?ay14⟩) T13 ?_
      case ay14 => (intro V hSw; go_simp; try with_reducible rfl)
      try simp only [Act.put, List.setIfInBounds_toArray, List.set_cons_zero, List.set_cons_succ]
      refine wpAnyH_ready (rs := [8]) (by kernel_rfl) (by simp) ?_
      refine (AllReadyH.cons (o := _) rfl (fun K hK => ?_) AllReadyH.nil)
      have t0 := kcells_of BX.out 0
      have t1 := kcells_of BX.out 1
      have tf := kfree_of BX.out
      have htl := lt_of_block BX.out
      simp only [List.getElem?_toArray, List.getElem?_cons_succ, List.getElem?_cons_zero] at t0 t1
      go_simp
      have T15 := T13.setCell (p := ⟨sb, 1, none⟩) hsb (.slice a5 (sa.length + 1) c5)
      try go_wp2_with fail
      refine hK.out _ _ T15 (fun hS15 => ?_)
      clear hK K
      try simp only [Act.put, List.setIfInBounds_toArray, List.set_cons_zero, List.set_cons_succ]
      refine wpAnyH_done (by kernel_rfl) ?_ _
      go_wp2
      go_roundg (gi - 1)
      case measure => exact hgx
      case rel => exact ⟨i + 1, (.slice a5 (sa.length + 1) c5), sa ++ [(kk, dd, ss, nn)], by go_num, by omega, by have := LEN.out; simp; omega, ⟨by first | exact heap_set_eq BX.out | (rw [heap_set_eq BX.out]; rfl), own_set_ty OO.out BX.out (by decide) 1 (.slice a5 (sa.length + 1) c5), by rw [List.length_append, kcells_app]; exact own_set_ty OW.out BX.out (by decide) 1 (.slice a5 (sa.length + 1) c5), SP.out.turn, GG.out.inx, fun q hq => by rcases List.mem_append.1 hq with hq | hq; exact GG.out.iny q hq; rw [List.mem_singleton.1 hq]; exact HM.out, T15⟩⟩
     ·go_simp
      have T16 := T10.alloc T10.size (.cells #[.int .i64 kk, .int .i64 dd, .string ss, .int .i64 nn] 64)
      try go_wp2_with fail
      refine hK.out _ _ T16 (fun hS16 => ?_)
      clear hK K
      try simp only [Act.put, List.setIfInBounds_toArray, List.set_cons_zero, List.set_cons_succ]
      refine wpAnyH_ready (rs := [1]) (by kernel_rfl) (by simp) ?_
      refine (AllReadyH.cons (o := _) rfl (fun K hK => ?_) AllReadyH.nil)
      have m17 := kcells_of (hheap_alloc_lt (o := .cells #[.int .i64 kk, .int .i64 dd, .string ss, .int .i64 nn] 64) G10.out.box) 1
      simp only [List.getElem?_toArray, List.getElem?_cons_succ, List.getElem?_cons_zero] at m17
      go_simp
      have T17 := T16
      clear m17
      try go_wp2_with fail
      refine hK.out _ _ T17 (fun hS17 => ?_)
      clear hK K
      try simp only [Act.put, List.setIfInBounds_toArray, List.set_cons_zero, List.set_cons_succ]
      refine wpAnyH_ready (rs := [6]) (by kernel_rfl) (by simp) ?_
      refine (AllReadyH.cons (o := _) rfl (fun K hK => ?_) AllReadyH.nil)
      refine hstep_append_own2 rfl (.tmp 44) (.tmp 48) 60 rfl U.heap.size 64 i64 (.agg #[.int .i64 0, .int .i64 0, .string ⟨#[]⟩, .int .i64 0]) 4 40 und60 hi64 hz64 hs64 hy64 rfl (by decide) (.slice qo sa.length co) sa.length _ rfl (World.ownsRow.alloc G10.out.oy _) ⟨_, 0, none⟩ 1 1 [.int .i64 kk, .int .i64 dd, .string ss, .int .i64 nn] rfl rfl (knew_at _ [.int .i64 kk, .int .i64 dd, .string ss, .int .i64 nn] 64 _ (by simp)) (fun u hu => by simp at hu; rcases hu with rfl | rfl | rfl | rfl <;> rfl) (by unfold maxLen; omega) (by omega) (by have := G10.out.below.size; simp; omega) ?_
      intro v5 w5 own5 hg5 hm5
      have T18 := Below.grown T17 hg5 (by exact T17.size) (fun q hq => hown_block_ge G10.out.oy q hq)
      have OO := Lib.hid (hown_grown_other (World.ownsRow.alloc G10.out.ox _) G10.out.sep.turn hg5)
      have SP := Lib.hid (HSep.moved G10.out.sep.turn hm5 (World.ownsRow.alloc G10.out.ox _))
      have BX := Lib.hid (box_grown (hheap_alloc_lt G10.out.box) (World.ownsRow.alloc G10.out.oy _) hg5 (by decide))
      obtain ⟨a5, c5, rfl⟩ := hown_form own5
      have OW := Lib.hid own5
      clear own5 hg5 hm5
      try go_simp
      try go_wp2_with fail
      refine hK.out _ _ T18 (fun hS18 => ?_)
      clear hK K
      try simp only [Act.put, List.setIfInBounds_toArray, List.set_cons_zero, List.set_cons_succ]
      refine wpAnyH_take (i := 7) (oi := ({ dst := some 50, op := .fieldAddr 75 (.tmp 10) 1, type := 0, pos := "law.go:188", after := #[⟨0, .phase⟩, ⟨1, .phase⟩, ⟨2, .phase⟩, ⟨3, .phase⟩, ⟨4, .phase⟩, ⟨5, .phase⟩, ⟨6, .phase⟩], guard := none } : Oper)) (v := ?av19) rfl (by kernel_rfl) (by kernel_rfl) (by kernel_rfl) (fun _ _ _ h => h) (Or.inl ⟨by rfl, ?ay19⟩) T18 ?_
      case ay19 => (intro V hSw; go_simp; try with_reducible rfl)
      try simp only [Act.put, List.setIfInBounds_toArray, List.set_cons_zero, List.set_cons_succ]
      refine wpAnyH_ready (rs := [8]) (by kernel_rfl) (by simp) ?_
      refine (AllReadyH.cons (o := _) rfl (fun K hK => ?_) AllReadyH.nil)
      have t0 := kcells_of BX.out 0
      have t1 := kcells_of BX.out 1
      have tf := kfree_of BX.out
      have htl := lt_of_block BX.out
      simp only [List.getElem?_toArray, List.getElem?_cons_succ, List.getElem?_cons_zero] at t0 t1
      go_simp
      have T20 := T18.setCell (p := ⟨sb, 1, none⟩) hsb (.slice a5 (sa.length + 1) c5)
      try go_wp2_with fail
      refine hK.out _ _ T20 (fun hS20 => ?_)
      clear hK K
      try simp only [Act.put, List.setIfInBounds_toArray, List.set_cons_zero, List.set_cons_succ]
      refine wpAnyH_done (by kernel_rfl) ?_ _
      go_wp2
      go_roundg (gi - 1)
      case measure => exact hgx
      case rel => exact ⟨i + 1, (.slice a5 (sa.length + 1) c5), sa ++ [(kk, dd, ss, nn)], by go_num, by omega, by have := LEN.out; simp; omega, ⟨by first | exact heap_set_eq BX.out | (rw [heap_set_eq BX.out]; rfl), own_set_ty OO.out BX.out (by decide) 1 (.slice a5 (sa.length + 1) c5), by rw [List.length_append, kcells_app]; exact own_set_ty OW.out BX.out (by decide) 1 (.slice a5 (sa.length + 1) c5), SP.out.turn, GG.out.inx, fun q hq => by rcases List.mem_append.1 hq with hq | hq; exact GG.out.iny q hq; rw [List.mem_singleton.1 hq]; exact HM.out, T20⟩⟩
   ·have e1 : decide ((i : Int) < (h : Int)) = false := decide_eq_false (by omega)
    have hiN : h ≤ i := by omega
    clear hiq
    go_wp2
    go_meet
    case rel => exact ⟨y, sa, by have := LEN.out; omega, GG.out⟩
 obtain ⟨y, sa, hn, hgb⟩ := hcut
 obtain ⟨V3, hV⟩ : ∃ x, x = wc := ⟨_, rfl⟩
 subst hV
 have NS := Lib.hid hn
 have G1 := Lib.hid hgb
 clear hn hgb
 clear G0
 obtain ⟨qy, cy, rfl⟩ := hown_form G1.out.oy
 go_upto_block 2 with fail
 go_cut [12] (fun va wx => ∃ (x : Value) (la : List KQ), la.length = lo ∧ GB U sb x (.slice qy sa.length cy) la sa wx)
 case first => as_aux_lemma =>
  go_wp2
  go_loopg [12] lo (fun g iv wx => ∃ (i : Nat) (x : Value) (la : List KQ), iv = .int .i64 i ∧ i + g = lo ∧ la.length = i ∧ GB U sb x (.slice qy sa.length cy) la sa wx)
  case atStart => exact ⟨0, _, _, rfl, by omega, rfl, G1.out⟩
  case round =>
   obtain ⟨i, x, la, rfl, hig, hlen, hgb⟩ := hrel
   obtain ⟨gi, hgn⟩ : ∃ g, g = gk := ⟨_, rfl⟩
   subst hgn
   obtain ⟨V4, hV⟩ : ∃ x, x = wr := ⟨_, rfl⟩
   subst hV
   have GG := Lib.hid hgb
   have LEN := Lib.hid hlen
   have hl5 : la.length < 5 + 1 := by omega
   clear hgb hlen
   by_cases hiq : i < lo
   ·have hgx : gi - 1 < gi := by omega
    have e1 : decide ((i : Int) < (lo : Int)) = true := decide_eq_true (by omega)
    have wi : IntKind.i64.wrap ((11 : Int) + (i : Int)) = (11 : Int) + (i : Int) := IntWalk.i64_in _ (by omega)
    have wi1 : IntKind.i64.wrap ((i : Int) + 1) = ((i + 1 : Nat) : Int) := by rw [IntWalk.i64_in _ (by omega)]; omega
    obtain ⟨qo, co, rfl⟩ := hown_form GG.out.ox
    go_upto_region 17 with fail
    have GD := Lib.hid GG.out.drew
    have T0 := GD.out.below
    refine wp_region_held_drew (S := fun W => Below U.heap.size U W) (by kernel_rfl) T0 (fun hS0 => ?_)
    refine wpAnyH_take (i := 0) (oi := ({ dst := some 56, op := .fieldAddr 75 (.tmp 10) 0, type := 0, pos := "law.go:191", after := #[], guard := none } : Oper)) (v := ?av21) rfl (by kernel_rfl) (by kernel_rfl) (by kernel_rfl) (fun _ _ _ h => h) (Or.inl ⟨by rfl, ?ay21⟩) T0 ?_
    case ay21 => (intro V hSw; go_simp; try with_reducible rfl)
    try simp only [Act.put, List.setIfInBounds_toArray, List.set_cons_zero, List.set_cons_succ]
    refine wpAnyH_take (i := 2) (oi := ({ dst := some 58, op := .move (.tmp 12), type := 3, pos := "law.go:191", after := #[], guard := none } : Oper)) (v := ?av22) rfl (by kernel_rfl) (by kernel_rfl) (by kernel_rfl) (fun _ _ _ h => h) (Or.inl ⟨by rfl, ?ay22⟩) T0 ?_
    case ay22 => (intro V hSw; go_simp; try with_reducible rfl)
    try simp only [Act.put, List.setIfInBounds_toArray, List.set_cons_zero, List.set_cons_succ]
    refine wpAnyH_take (i := 3) (oi := ({ dst := some 59, op := .binOp .add 3 (.const (.int .i64 11)) (.tmp 58) 3, type := 3, pos := "law.go:191", after := #[⟨2, .data⟩], guard := none } : Oper)) (v := ?av23) rfl (by kernel_rfl) (by kernel_rfl) (by kernel_rfl) (fun _ _ _ h => h) (Or.inl ⟨by rfl, ?ay23⟩) T0 ?_
    case ay23 => (intro V hSw; go_simp; try with_reducible rfl)
    try simp only [Act.put, List.setIfInBounds_toArray, List.set_cons_zero, List.set_cons_succ]
    refine wpAnyH_ready (rs := [1, 4]) (by kernel_rfl) (by simp) ?_
    refine (AllReadyH.cons (o := _) rfl (fun K hK => ?_) (AllReadyH.cons (o := _) rfl (fun K hK => ?_) AllReadyH.nil))
    ·have m24 := kcells_of GD.out.box 0
     simp only [List.getElem?_toArray, List.getElem?_cons_succ, List.getElem?_cons_zero] at m24
     go_simp
     have T24 := T0
     clear m24
     try go_wp2_with fail
     refine hK.out _ _ T24 (fun hS24 => ?_)
     clear hK K
     try simp only [Act.put, List.setIfInBounds_toArray, List.set_cons_zero, List.set_cons_succ]
     refine wpAnyH_ready (rs := [4]) (by kernel_rfl) (by simp) ?_
     refine (AllReadyH.cons (o := _) rfl (fun K hK => ?_) AllReadyH.nil)
     go_simp
     refine (known_q _ (show B64 ((11 : Int) + (i : Int)) from ⟨by omega, by omega⟩) _).mono ?_
     rintro e P25 ⟨kk, dd, nn, ss, hm, rfl, hb25⟩
     have HM := Lib.hid hm
     have G25 := Lib.hid (GD.out.next hb25)
     have T25 := G25.out.below
     clear hm hb25
     try go_wp2_with fail
     refine hK.out _ _ T25 (fun hS25 => ?_)
     clear hK K
     try simp only [Act.put, List.setIfInBounds_toArray, List.set_cons_zero, List.set_cons_succ]
     refine wpAnyH_ready (rs := [5]) (by kernel_rfl) (by simp) ?_
     refine (AllReadyH.cons (o := _) rfl (fun K hK => ?_) AllReadyH.nil)
     go_simp
     have T26 := T25.alloc T25.size (.cells #[.int .i64 kk, .int .i64 dd, .string ss, .int .i64 nn] 64)
     try go_wp2_with fail
     refine hK.out _ _ T26 (fun hS26 => ?_)
     clear hK K
     try simp only [Act.put, List.setIfInBounds_toArray, List.set_cons_zero, List.set_cons_succ]
     refine wpAnyH_ready (rs := [6]) (by kernel_rfl) (by simp) ?_
     refine (AllReadyH.cons (o := _) rfl (fun K hK => ?_) AllReadyH.nil)
     refine hstep_append_own2 rfl (.tmp 57) (.tmp 61) 60 rfl U.heap.size 64 i64 (.agg #[.int .i64 0, .int .i64 0, .string ⟨#[]⟩, .int .i64 0]) 4 40 und60 hi64 hz64 hs64 hy64 rfl (by decide) (.slice qo la.length co) la.length _ rfl (World.ownsRow.alloc G25.out.ox _) ⟨_, 0, none⟩ 1 1 [.int .i64 kk, .int .i64 dd, .string ss, .int .i64 nn] rfl rfl (knew_at _ [.int .i64 kk, .int .i64 dd, .string ss, .int .i64 nn] 64 _ (by simp)) (fun u hu => by simp at hu; rcases hu with rfl | rfl | rfl | rfl <;> rfl) (by unfold maxLen; omega) (by omega) (by have := G25.out.below.size; simp; omega) ?_
     intro v5 w5 own5 hg5 hm5
     have T27 := Below.grown T26 hg5 (by exact T26.size) (fun q hq => hown_block_ge G25.out.ox q hq)
     have OO := Lib.hid (hown_grown_other (World.ownsRow.alloc G25.out.oy _) G25.out.sep hg5)
     have SP := Lib.hid (HSep.moved G25.out.sep hm5 (World.ownsRow.alloc G25.out.oy _))
     have BX := Lib.hid (box_grown (hheap_alloc_lt G25.out.box) (World.ownsRow.alloc G25.out.ox _) hg5 (by decide))
     obtain ⟨a5, c5, rfl⟩ := hown_form own5
     have OW := Lib.hid own5
     clear own5 hg5 hm5
     try go_simp
     try go_wp2_with fail
     refine hK.out _ _ T27 (fun hS27 => ?_)
     clear hK K
     try simp only [Act.put, List.setIfInBounds_toArray, List.set_cons_zero, List.set_cons_succ]
     refine wpAnyH_take (i := 7) (oi := ({ dst := some 63, op := .fieldAddr 75 (.tmp 10) 0, type := 0, pos := "law.go:191", after := #[⟨0, .phase⟩, ⟨1, .phase⟩, ⟨2, .phase⟩, ⟨3, .phase⟩, ⟨4, .phase⟩, ⟨5, .phase⟩, ⟨6, .phase⟩], guard := none } : Oper)) (v := ?av28) rfl (by kernel_rfl) (by kernel_rfl) (by kernel_rfl) (fun _ _ _ h => h) (Or.inl ⟨by rfl, ?ay28⟩) T27 ?_
     case ay28 => (intro V hSw; go_simp; try with_reducible rfl)
     try simp only [Act.put, List.setIfInBounds_toArray, List.set_cons_zero, List.set_cons_succ]
     refine wpAnyH_ready (rs := [8]) (by kernel_rfl) (by simp) ?_
     refine (AllReadyH.cons (o := _) rfl (fun K hK => ?_) AllReadyH.nil)
     have t0 := kcells_of BX.out 0
     have t1 := kcells_of BX.out 1
     have tf := kfree_of BX.out
     have htl := lt_of_block BX.out
     simp only [List.getElem?_toArray, List.getElem?_cons_succ, List.getElem?_cons_zero] at t0 t1
     go_simp
     have T29 := T27.setCell (p := ⟨sb, 0, none⟩) hsb (.slice a5 (la.length + 1) c5)
     try go_wp2_with fail
     refine hK.out _ _ T29 (fun hS29 => ?_)
     clear hK K
     try simp only [Act.put, List.setIfInBounds_toArray, List.set_cons_zero, List.set_cons_succ]
     refine wpAnyH_done (by kernel_rfl) ?_ _
     go_wp2
     go_roundg (gi - 1)
     case measure => exact hgx
     case rel => exact ⟨i + 1, (.slice a5 (la.length + 1) c5), la ++ [(kk, dd, ss, nn)], by go_num, by omega, by have := LEN.out; simp; omega, ⟨by first | exact heap_set_eq BX.out | (rw [heap_set_eq BX.out]; rfl), by rw [List.length_append, kcells_app]; exact own_set_ty OW.out BX.out (by decide) 0 (.slice a5 (la.length + 1) c5), own_set_ty OO.out BX.out (by decide) 0 (.slice a5 (la.length + 1) c5), SP.out, fun q hq => by rcases List.mem_append.1 hq with hq | hq; exact GG.out.inx q hq; rw [List.mem_singleton.1 hq]; exact HM.out, GG.out.iny, T29⟩⟩
    ·go_simp
     refine (known_q _ (show B64 ((11 : Int) + (i : Int)) from ⟨by omega, by omega⟩) _).mono ?_
     rintro e P30 ⟨kk, dd, nn, ss, hm, rfl, hb30⟩
     have HM := Lib.hid hm
     have G30 := Lib.hid (GD.out.next hb30)
     have T30 := G30.out.below
     clear hm hb30
     try go_wp2_with fail
     refine hK.out _ _ T30 (fun hS30 => ?_)
     clear hK K
     try simp only [Act.put, List.setIfInBounds_toArray, List.set_cons_zero, List.set_cons_succ]
     refine wpAnyH_ready (rs := [1, 5]) (by kernel_rfl) (by simp) ?_
     refine (AllReadyH.cons (o := _) rfl (fun K hK => ?_) (AllReadyH.cons (o := _) rfl (fun K hK => ?_) AllReadyH.nil))
     ·have m31 := kcells_of G30.out.box 0
      simp only [List.getElem?_toArray, List.getElem?_cons_succ, List.getElem?_cons_zero] at m31
      go_simp
      have T31 := T30
      clear m31
      try go_wp2_with fail
      refine hK.out _ _ T31 (fun hS31 => ?_)
      clear hK K
      try simp only [Act.put, List.setIfInBounds_toArray, List.set_cons_zero, List.set_cons_succ]
      refine wpAnyH_ready (rs := [5]) (by kernel_rfl) (by simp) ?_
      refine (AllReadyH.cons (o := _) rfl (fun K hK => ?_) AllReadyH.nil)
      go_simp
      have T32 := T31.alloc T31.size (.cells #[.int .i64 kk, .int .i64 dd, .string ss, .int .i64 nn] 64)
      try go_wp2_with fail
      refine hK.out _ _ T32 (fun hS32 => ?_)
      clear hK K
      try simp only [Act.put, List.setIfInBounds_toArray, List.set_cons_zero, List.set_cons_succ]
      refine wpAnyH_ready (rs := [6]) (by kernel_rfl) (by simp) ?_
      refine (AllReadyH.cons (o := _) rfl (fun K hK => ?_) AllReadyH.nil)
      refine hstep_append_own2 rfl (.tmp 57) (.tmp 61) 60 rfl U.heap.size 64 i64 (.agg #[.int .i64 0, .int .i64 0, .string ⟨#[]⟩, .int .i64 0]) 4 40 und60 hi64 hz64 hs64 hy64 rfl (by decide) (.slice qo la.length co) la.length _ rfl (World.ownsRow.alloc G30.out.ox _) ⟨_, 0, none⟩ 1 1 [.int .i64 kk, .int .i64 dd, .string ss, .int .i64 nn] rfl rfl (knew_at _ [.int .i64 kk, .int .i64 dd, .string ss, .int .i64 nn] 64 _ (by simp)) (fun u hu => by simp at hu; rcases hu with rfl | rfl | rfl | rfl <;> rfl) (by unfold maxLen; omega) (by omega) (by have := G30.out.below.size; simp; omega) ?_
      intro v5 w5 own5 hg5 hm5
      have T33 := Below.grown T32 hg5 (by exact T32.size) (fun q hq => hown_block_ge G30.out.ox q hq)
      have OO := Lib.hid (hown_grown_other (World.ownsRow.alloc G30.out.oy _) G30.out.sep hg5)
      have SP := Lib.hid (HSep.moved G30.out.sep hm5 (World.ownsRow.alloc G30.out.oy _))
      have BX := Lib.hid (box_grown (hheap_alloc_lt G30.out.box) (World.ownsRow.alloc G30.out.ox _) hg5 (by decide))
      obtain ⟨a5, c5, rfl⟩ := hown_form own5
      have OW := Lib.hid own5
      clear own5 hg5 hm5
      try go_simp
      try go_wp2_with fail
      refine hK.out _ _ T33 (fun hS33 => ?_)
      clear hK K
      try simp only [Act.put, List.setIfInBounds_toArray, List.set_cons_zero, List.set_cons_succ]
      refine wpAnyH_take (i := 7) (oi := ({ dst := some 63, op := .fieldAddr 75 (.tmp 10) 0, type := 0, pos := "law.go:191", after := #[⟨0, .phase⟩, ⟨1, .phase⟩, ⟨2, .phase⟩, ⟨3, .phase⟩, ⟨4, .phase⟩, ⟨5, .phase⟩, ⟨6, .phase⟩], guard := none } : Oper)) (v := ?av34) rfl (by kernel_rfl) (by kernel_rfl) (by kernel_rfl) (fun _ _ _ h => h) (Or.inl ⟨by rfl, ?ay34⟩) T33 ?_
      case ay34 => (intro V hSw; go_simp; try with_reducible rfl)
      try simp only [Act.put, List.setIfInBounds_toArray, List.set_cons_zero, List.set_cons_succ]
      refine wpAnyH_ready (rs := [8]) (by kernel_rfl) (by simp) ?_
      refine (AllReadyH.cons (o := _) rfl (fun K hK => ?_) AllReadyH.nil)
      have t0 := kcells_of BX.out 0
      have t1 := kcells_of BX.out 1
      have tf := kfree_of BX.out
      have htl := lt_of_block BX.out
      simp only [List.getElem?_toArray, List.getElem?_cons_succ, List.getElem?_cons_zero] at t0 t1
      go_simp
      have T35 := T33.setCell (p := ⟨sb, 0, none⟩) hsb (.slice a5 (la.length + 1) c5)
      try go_wp2_with fail
      refine hK.out _ _ T35 (fun hS35 => ?_)
      clear hK K
      try simp only [Act.put, List.setIfInBounds_toArray, List.set_cons_zero, List.set_cons_succ]
      refine wpAnyH_done (by kernel_rfl) ?_ _
      go_wp2
      go_roundg (gi - 1)
      case measure => exact hgx
      case rel => exact ⟨i + 1, (.slice a5 (la.length + 1) c5), la ++ [(kk, dd, ss, nn)], by go_num, by omega, by have := LEN.out; simp; omega, ⟨by first | exact heap_set_eq BX.out | (rw [heap_set_eq BX.out]; rfl), by rw [List.length_append, kcells_app]; exact own_set_ty OW.out BX.out (by decide) 0 (.slice a5 (la.length + 1) c5), own_set_ty OO.out BX.out (by decide) 0 (.slice a5 (la.length + 1) c5), SP.out, fun q hq => by rcases List.mem_append.1 hq with hq | hq; exact GG.out.inx q hq; rw [List.mem_singleton.1 hq]; exact HM.out, GG.out.iny, T35⟩⟩
     ·go_simp
      have T36 := T30.alloc T30.size (.cells #[.int .i64 kk, .int .i64 dd, .string ss, .int .i64 nn] 64)
      try go_wp2_with fail
      refine hK.out _ _ T36 (fun hS36 => ?_)
      clear hK K
      try simp only [Act.put, List.setIfInBounds_toArray, List.set_cons_zero, List.set_cons_succ]
      refine wpAnyH_ready (rs := [1]) (by kernel_rfl) (by simp) ?_
      refine (AllReadyH.cons (o := _) rfl (fun K hK => ?_) AllReadyH.nil)
      have m37 := kcells_of (hheap_alloc_lt (o := .cells #[.int .i64 kk, .int .i64 dd, .string ss, .int .i64 nn] 64) G30.out.box) 0
      simp only [List.getElem?_toArray, List.getElem?_cons_succ, List.getElem?_cons_zero] at m37
      go_simp
      have T37 := T36
      clear m37
      try go_wp2_with fail
      refine hK.out _ _ T37 (fun hS37 => ?_)
      clear hK K
      try simp only [Act.put, List.setIfInBounds_toArray, List.set_cons_zero, List.set_cons_succ]
      refine wpAnyH_ready (rs := [6]) (by kernel_rfl) (by simp) ?_
      refine (AllReadyH.cons (o := _) rfl (fun K hK => ?_) AllReadyH.nil)
      refine hstep_append_own2 rfl (.tmp 57) (.tmp 61) 60 rfl U.heap.size 64 i64 (.agg #[.int .i64 0, .int .i64 0, .string ⟨#[]⟩, .int .i64 0]) 4 40 und60 hi64 hz64 hs64 hy64 rfl (by decide) (.slice qo la.length co) la.length _ rfl (World.ownsRow.alloc G30.out.ox _) ⟨_, 0, none⟩ 1 1 [.int .i64 kk, .int .i64 dd, .string ss, .int .i64 nn] rfl rfl (knew_at _ [.int .i64 kk, .int .i64 dd, .string ss, .int .i64 nn] 64 _ (by simp)) (fun u hu => by simp at hu; rcases hu with rfl | rfl | rfl | rfl <;> rfl) (by unfold maxLen; omega) (by omega) (by have := G30.out.below.size; simp; omega) ?_
      intro v5 w5 own5 hg5 hm5
      have T38 := Below.grown T37 hg5 (by exact T37.size) (fun q hq => hown_block_ge G30.out.ox q hq)
      have OO := Lib.hid (hown_grown_other (World.ownsRow.alloc G30.out.oy _) G30.out.sep hg5)
      have SP := Lib.hid (HSep.moved G30.out.sep hm5 (World.ownsRow.alloc G30.out.oy _))
      have BX := Lib.hid (box_grown (hheap_alloc_lt G30.out.box) (World.ownsRow.alloc G30.out.ox _) hg5 (by decide))
      obtain ⟨a5, c5, rfl⟩ := hown_form own5
      have OW := Lib.hid own5
      clear own5 hg5 hm5
      try go_simp
      try go_wp2_with fail
      refine hK.out _ _ T38 (fun hS38 => ?_)
      clear hK K
      try simp only [Act.put, List.setIfInBounds_toArray, List.set_cons_zero, List.set_cons_succ]
      refine wpAnyH_take (i := 7) (oi := ({ dst := some 63, op := .fieldAddr 75 (.tmp 10) 0, type := 0, pos := "law.go:191", after := #[⟨0, .phase⟩, ⟨1, .phase⟩, ⟨2, .phase⟩, ⟨3, .phase⟩, ⟨4, .phase⟩, ⟨5, .phase⟩, ⟨6, .phase⟩], guard := none } : Oper)) (v := ?av39) rfl (by kernel_rfl) (by kernel_rfl) (by kernel_rfl) (fun _ _ _ h => h) (Or.inl ⟨by rfl, ?ay39⟩) T38 ?_
      case ay39 => (intro V hSw; go_simp; try with_reducible rfl)
      try simp only [Act.put, List.setIfInBounds_toArray, List.set_cons_zero, List.set_cons_succ]
      refine wpAnyH_ready (rs := [8]) (by kernel_rfl) (by simp) ?_
      refine (AllReadyH.cons (o := _) rfl (fun K hK => ?_) AllReadyH.nil)
      have t0 := kcells_of BX.out 0
      have t1 := kcells_of BX.out 1
      have tf := kfree_of BX.out
      have htl := lt_of_block BX.out
      simp only [List.getElem?_toArray, List.getElem?_cons_succ, List.getElem?_cons_zero] at t0 t1
      go_simp
      have T40 := T38.setCell (p := ⟨sb, 0, none⟩) hsb (.slice a5 (la.length + 1) c5)
      try go_wp2_with fail
      refine hK.out _ _ T40 (fun hS40 => ?_)
      clear hK K
      try simp only [Act.put, List.setIfInBounds_toArray, List.set_cons_zero, List.set_cons_succ]
      refine wpAnyH_done (by kernel_rfl) ?_ _
      go_wp2
      go_roundg (gi - 1)
      case measure => exact hgx
      case rel => exact ⟨i + 1, (.slice a5 (la.length + 1) c5), la ++ [(kk, dd, ss, nn)], by go_num, by omega, by have := LEN.out; simp; omega, ⟨by first | exact heap_set_eq BX.out | (rw [heap_set_eq BX.out]; rfl), by rw [List.length_append, kcells_app]; exact own_set_ty OW.out BX.out (by decide) 0 (.slice a5 (la.length + 1) c5), own_set_ty OO.out BX.out (by decide) 0 (.slice a5 (la.length + 1) c5), SP.out, fun q hq => by rcases List.mem_append.1 hq with hq | hq; exact GG.out.inx q hq; rw [List.mem_singleton.1 hq]; exact HM.out, GG.out.iny, T40⟩⟩
   ·have e1 : decide ((i : Int) < (lo : Int)) = false := decide_eq_false (by omega)
    have hiN : lo ≤ i := by omega
    clear hiq
    go_wp2
    go_meet
    case rel => exact ⟨x, la, by have := LEN.out; omega, GG.out⟩
 obtain ⟨x, la, hn, hgb⟩ := hcut
 obtain ⟨V5, hV⟩ : ∃ x, x = wc := ⟨_, rfl⟩
 subst hV
 have NL := Lib.hid hn
 have G2 := Lib.hid hgb
 clear hn hgb
 clear G1
 have HI0 := HI.out
 obtain ⟨_, _, _, Av, cv, hv, hvc, hvm, _⟩ := HI.out
 subst hv
 unfold maxLen at hvm
 obtain ⟨N, hN1⟩ : ∃ N, N = min ls.length 100 := ⟨_, rfl⟩
 have hN2 : N ≤ ls.length := by omega
 have hN3 : N ≤ 100 := by omega
 have hN4 : ∀ i, N ≤ i → i < ls.length → ¬ i < 100 := fun i h1 h2 => by omega
 clear hN1
 have S0 := Lib.hid (show GS U sb lo h 0 x (.slice qy sa.length cy) la sa V5 from by
  have s1 := sum_most la (in19_17 G2.out.inx)
  have s2 := sum_most sa (in19_17 G2.out.iny)
  have n1 := NL.out
  have n2 := NS.out
  exact ⟨G2.out.box, Row.hof_own G2.out.ox, Row.hof_own G2.out.oy, own_plc G2.out.ox, own_plc G2.out.oy, n1, n2, in19_17 G2.out.inx, in19_17 G2.out.iny, okl17 G2.out.inx, okl17 G2.out.iny, by omega, G2.out.below⟩)
 clear G2 NL NS HI0
 go_wp2
 go_loopg [13, 14] N (fun g tv iv wx => ∃ (t i : Nat) (x y : Value) (la sa : List KQ), tv = .int .i64 (t : Int) ∧ iv = .int .i64 (i : Int) ∧ i + g = N ∧ GS U sb lo h t x y la sa wx)
 case atStart => exact ⟨0, 0, _, _, _, _, rfl, rfl, by omega, S0.out⟩
 case round =>
  clear S0
  obtain ⟨t, i, x, y, la, sa, rfl, rfl, hig, hgs⟩ := hrel
  obtain ⟨gi, hgn⟩ : ∃ g, g = gk := ⟨_, rfl⟩
  subst hgn
  obtain ⟨V, hV⟩ : ∃ x, x = wr := ⟨_, rfl⟩
  subst hV
  have S1 := Lib.hid hgs
  clear hgs
  by_cases hiq : i < N
  ·have hgx : gi - 1 < gi := by omega
   have e1 : decide ((i : Int) < (ls.length : Int)) = true := decide_eq_true (by omega)
   have e2 : decide ((i : Int) < 100) = true := decide_eq_true (by omega)
   obtain ⟨l, hl⟩ : ∃ l, ls[i]? = some l := ⟨_, List.getElem?_eq_getElem (by omega)⟩
   obtain ⟨b, o, Al, cl', rfl, hbU, c0, il, hlm⟩ := HI.out.at_ hl
   unfold maxLen at hlm
   have hUV := S1.out.below.size
   have C0 := Lib.hid ((S1.out.below.cell (p := ⟨b, o + i, none⟩) hbU).trans c0)
   have IL := Lib.hid il
   have BL := Lib.hid (HL.out l (List.mem_of_getElem? hl))
   have hbV : b < V.heap.size := by omega
   clear c0 il hl
   obtain ⟨A1, k1, e3, _, _⟩ := S1.out.rx.form
   obtain ⟨A2, k2, e4, _, _⟩ := S1.out.ry.form
   subst e3
   subst e4
   have m0 := kcells_of S1.out.box 0
   have m1 := kcells_of S1.out.box 1
   have hsbV := lt_of_block S1.out.box
   simp only [List.getElem?_toArray, List.getElem?_cons_succ, List.getElem?_cons_zero] at m0 m1
   go_wp2_with fail
   refine (CloneS2_any la sa _ _ V S1.out.rx S1.out.ry (Nat.le_refl _) S1.out.px S1.out.py (by have := S1.out.ll; omega) (by have := S1.out.ls; omega)).mono ?_
   rintro e W1 ⟨v1, v2, X, rfl, hX1, hX2, o1, _, o2, hlt, hb1⟩
   have sp : HSep v1 v2 := fun g hg hv => by
    have a1 := hlt g hg
    have a2 := hown_block_ge o2 g hv
    omega
   obtain ⟨ob, hob⟩ : ∃ b, W1.heap.size = b := ⟨_, rfl⟩
   have hz1 := hb1.size
   have O0 := Lib.hid (show GO V ob v1 v2 la sa (W1.alloc (.cells #[v1, v2] 75)) from ⟨by rw [← hob]; exact hheap_new _ _, World.ownsRow.alloc (hown_mono o1 (by omega)) _, World.ownsRow.alloc (hown_mono o2 (by omega)) _, sp, ⟨S1.out.inx, S1.out.okx⟩, ⟨S1.out.iny, S1.out.oky⟩, hb1.alloc hz1 _⟩)
   have hobV : V.heap.size ≤ ob := by omega
   obtain ⟨q1, d1, rfl⟩ := hown_form o1
   obtain ⟨q2, d2, rfl⟩ := hown_form o2
   clear o1 o2 sp hlt hb1 m0 m1
   go_upto_block 6 with fail
   try rw [hob]
   obtain ⟨W2, hW2⟩ : ∃ x, (W1.alloc (.cells #[.slice q1 la.length d1, .slice q2 sa.length d2] 75)) = x := ⟨_, rfl⟩
   rw [hW2] at O0 ⊢
   clear hW2 hob hz1 hX1 hX2
   obtain ⟨M, hM1⟩ : ∃ M, M = min sa.length (l.length) := ⟨_, rfl⟩
   have hM2 : M ≤ sa.length := by omega
   have hM3 : ∀ k, k < M → k < l.length := fun k hk => by omega
   have hM4 : ∀ k, M ≤ k → k < sa.length → ¬ k < l.length := fun k a1 a2 => by omega
   clear hM1
   go_cut [16] (fun va wx => ∃ sc : List KQ, sc.length = sa.length ∧ GO V ob (.slice q1 la.length d1) (.slice q2 sa.length d2) la sc wx)
   case first => as_aux_lemma =>
    go_wp2
    go_loopg [16] M (fun g kv wx => ∃ (k : Nat) (sc : List KQ), kv = .int .i64 (k : Int) ∧ k + g = M ∧ sc.length = sa.length ∧ GO V ob (.slice q1 la.length d1) (.slice q2 sa.length d2) la sc wx)
    case atStart => exact ⟨0, sa, rfl, by omega, rfl, O0.out⟩
    case round =>
     obtain ⟨k, sc, rfl, hkg, hlen, hgo⟩ := hrel
     obtain ⟨gj, hgn2⟩ : ∃ g, g = gk := ⟨_, rfl⟩
     subst hgn2
     obtain ⟨Wk, hWk⟩ : ∃ x, x = wr := ⟨_, rfl⟩
     subst hWk
     have GG := Lib.hid hgo
     have LEN := Lib.hid hlen
     clear hgo hlen O0
     have m0 := kcells_of GG.out.box 0
     have m1 := kcells_of GG.out.box 1
     have hobW := lt_of_block GG.out.box
     simp only [List.getElem?_toArray, List.getElem?_cons_succ, List.getElem?_cons_zero] at m0 m1
     have n2 := (GG.out.below.cell (p := ⟨b, o + i, none⟩) hbV).trans C0.out
     have hiI : (i : Int) < (ls.length : Int) := by omega
     by_cases hkq : k < M
     ·have hgkx : gj - 1 < gj := by omega
      have hkl : k < l.length := hM3 k hkq
      have g1 : decide ((k : Int) < (sa.length : Int)) = true := decide_eq_true (by omega)
      have g2 : decide ((k : Int) < (l.length : Int)) = true := decide_eq_true (by omega)
      have hkI : (k : Int) < (sa.length : Int) := by omega
      have hkI2 : (k : Int) < (l.length : Int) := by omega
      obtain ⟨z, hz⟩ : ∃ z, l[k]? = some z := ⟨_, List.getElem?_eq_getElem hkl⟩
      obtain ⟨bl, ol, rfl, hblU, cz⟩ := IL.out.at_ hz
      have hblV : bl < V.heap.size := by omega
      have CZ := Lib.hid ((S1.out.below.cell (p := ⟨bl, ol + (k), none⟩) hblU).trans cz)
      have n3 := (GG.out.below.cell (p := ⟨bl, ol + (k), none⟩) hblV).trans CZ.out
      have oo := GG.out.o2
      rw [LEN.out] at oo
      obtain ⟨g9, rfl, hg9, cur, hcur, hcs⟩ := own_some oo (by omega)
      have BZ := Lib.hid (BL.out z (List.mem_of_getElem? hz))
      clear cz hz oo hcur hcs cur
      go_upto_region 26 with fail
      have GD := Lib.hid GG.out.drew
      have T0 := (⟨GD.out.box, n2, n3, GD.out.below⟩ : GR V ob (.slice q1 la.length d1) (.slice (some ⟨g9, 0, none⟩) sa.length d2) b (o + i) bl (ol + (k)) (.slice (some ⟨bl, ol, none⟩) l.length cl') z Wk.drew)
      refine wp_region_held_drew (S := fun W => GR V ob (.slice q1 la.length d1) (.slice (some ⟨g9, 0, none⟩) sa.length d2) b (o + i) bl (ol + (k)) (.slice (some ⟨bl, ol, none⟩) l.length cl') z W) (by kernel_rfl) T0 (fun hS0 => ?_)
      refine wpAnyH_take (i := 0) (oi := ({ dst := some 92, op := .fieldAddr 75 (.tmp 15) 1, type := 0, pos := "law.go:197", after := #[], guard := none } : Oper)) (v := ?av3001) rfl (by kernel_rfl) (by kernel_rfl) (by kernel_rfl) (fun _ _ _ h => h) (Or.inl ⟨by rfl, ?ay3001⟩) T0 ?_
      case ay3001 => (intro V hSw; go_simp; try with_reducible rfl)
      try simp only [Act.put, List.setIfInBounds_toArray, List.set_cons_zero, List.set_cons_succ]
      refine wpAnyH_take (i := 1) (oi := ({ dst := some 93, op := .load 60 (.tmp 92), type := 60, pos := "law.go:197", after := #[⟨0, .data⟩], guard := none } : Oper)) (v := ?av3002) rfl (by kernel_rfl) (by kernel_rfl) (by kernel_rfl) (fun _ _ _ h => h) (Or.inl ⟨by rfl, ?ay3002⟩) T0 ?_
      case ay3002 => (intro V hSw; have t1 := kcells_of hSw.box 1; simp only [List.getElem?_toArray, List.getElem?_cons_succ, List.getElem?_cons_zero] at t1; go_simp; try with_reducible rfl)
      try simp only [Act.put, List.setIfInBounds_toArray, List.set_cons_zero, List.set_cons_succ]
      refine wpAnyH_take (i := 2) (oi := ({ dst := some 94, op := .move (.tmp 16), type := 3, pos := "law.go:197", after := #[], guard := none } : Oper)) (v := ?av3003) rfl (by kernel_rfl) (by kernel_rfl) (by kernel_rfl) (fun _ _ _ h => h) (Or.inl ⟨by rfl, ?ay3003⟩) T0 ?_
      case ay3003 => (intro V hSw; go_simp; try with_reducible rfl)
      try simp only [Act.put, List.setIfInBounds_toArray, List.set_cons_zero, List.set_cons_succ]
      refine wpAnyH_take (i := 3) (oi := ({ dst := some 95, op := .move (.tmp 2), type := 86, pos := "law.go:197", after := #[], guard := none } : Oper)) (v := ?av3004) rfl (by kernel_rfl) (by kernel_rfl) (by kernel_rfl) (fun _ _ _ h => h) (Or.inl ⟨by rfl, ?ay3004⟩) T0 ?_
      case ay3004 => (intro V hSw; go_simp; try with_reducible rfl)
      try simp only [Act.put, List.setIfInBounds_toArray, List.set_cons_zero, List.set_cons_succ]
      refine wpAnyH_take (i := 4) (oi := ({ dst := some 96, op := .move (.tmp 14), type := 3, pos := "law.go:197", after := #[], guard := none } : Oper)) (v := ?av3005) rfl (by kernel_rfl) (by kernel_rfl) (by kernel_rfl) (fun _ _ _ h => h) (Or.inl ⟨by rfl, ?ay3005⟩) T0 ?_
      case ay3005 => (intro V hSw; go_simp; try with_reducible rfl)
      try simp only [Act.put, List.setIfInBounds_toArray, List.set_cons_zero, List.set_cons_succ]
      refine wpAnyH_take (i := 5) (oi := ({ dst := some 97, op := .indexAddr 86 (.tmp 95) (.tmp 96), type := 0, pos := "law.go:197", after := #[⟨3, .data⟩, ⟨4, .data⟩], guard := none } : Oper)) (v := ?av3006) rfl (by kernel_rfl) (by kernel_rfl) (by kernel_rfl) (fun _ _ _ h => h) (Or.inl ⟨by rfl, ?ay3006⟩) T0 ?_
      case ay3006 => (intro V hSw; go_simp; try with_reducible rfl)
      try simp only [Act.put, List.setIfInBounds_toArray, List.set_cons_zero, List.set_cons_succ]
      refine wpAnyH_take (i := 6) (oi := ({ dst := some 98, op := .load 29 (.tmp 97), type := 29, pos := "law.go:197", after := #[⟨5, .data⟩], guard := none } : Oper)) (v := ?av3007) rfl (by kernel_rfl) (by kernel_rfl) (by kernel_rfl) (fun _ _ _ h => h) (Or.inl ⟨by rfl, ?ay3007⟩) T0 ?_
      case ay3007 => (intro V hSw; have tc := hSw.cl; go_simp; try with_reducible rfl)
      try simp only [Act.put, List.setIfInBounds_toArray, List.set_cons_zero, List.set_cons_succ]
      refine wpAnyH_take (i := 7) (oi := ({ dst := some 99, op := .move (.tmp 16), type := 3, pos := "law.go:197", after := #[], guard := none } : Oper)) (v := ?av3008) rfl (by kernel_rfl) (by kernel_rfl) (by kernel_rfl) (fun _ _ _ h => h) (Or.inl ⟨by rfl, ?ay3008⟩) T0 ?_
      case ay3008 => (intro V hSw; go_simp; try with_reducible rfl)
      try simp only [Act.put, List.setIfInBounds_toArray, List.set_cons_zero, List.set_cons_succ]
      refine wpAnyH_take (i := 8) (oi := ({ dst := some 100, op := .indexAddr 29 (.tmp 98) (.tmp 99), type := 0, pos := "law.go:197", after := #[⟨6, .data⟩, ⟨7, .data⟩], guard := none } : Oper)) (v := ?av3009) rfl (by kernel_rfl) (by kernel_rfl) (by kernel_rfl) (fun _ _ _ h => h) (Or.inl ⟨by rfl, ?ay3009⟩) T0 ?_
      case ay3009 => (intro V hSw; go_simp; try with_reducible rfl)
      try simp only [Act.put, List.setIfInBounds_toArray, List.set_cons_zero, List.set_cons_succ]
      refine wpAnyH_take (i := 9) (oi := ({ dst := some 101, op := .load 3 (.tmp 100), type := 3, pos := "law.go:197", after := #[⟨8, .data⟩], guard := none } : Oper)) (v := ?av3010) rfl (by kernel_rfl) (by kernel_rfl) (by kernel_rfl) (fun _ _ _ h => h) (Or.inl ⟨by rfl, ?ay3010⟩) T0 ?_
      case ay3010 => (intro V hSw; have tz := hSw.cz; go_simp; try with_reducible rfl)
      try simp only [Act.put, List.setIfInBounds_toArray, List.set_cons_zero, List.set_cons_succ]
      refine wpAnyH_ready (rs := [10]) (by kernel_rfl) (by simp) ?_
      refine (AllReadyH.cons (o := _) rfl (fun K hK => ?_) AllReadyH.nil)
      go_simp
      refine (known_q z BZ.out _).mono ?_
      rintro e P3011 ⟨kk, dd, nn, ss, hm, rfl, hb3011⟩
      have HM := Lib.hid hm
      have G3011 := Lib.hid (GD.out.next hb3011)
      have T3011 : GR V ob (.slice q1 la.length d1) (.slice (some ⟨g9, 0, none⟩) sa.length d2) b (o + i) bl (ol + (k)) (.slice (some ⟨bl, ol, none⟩) l.length cl') z P3011 := ⟨G3011.out.box, (G3011.out.below.cell (p := ⟨b, o + i, none⟩) hbV).trans C0.out, (G3011.out.below.cell (p := ⟨bl, ol + (k), none⟩) hblV).trans CZ.out, G3011.out.below⟩
      clear hm hb3011
      try go_wp2_with fail
      refine hK.out _ _ T3011 (fun hS3011 => ?_)
      clear hK K
      try simp only [Act.put, List.setIfInBounds_toArray, List.set_cons_zero, List.set_cons_succ]
      refine wpAnyH_take (i := 11) (oi := ({ dst := some 103, op := .indexAddr 60 (.tmp 93) (.tmp 94), type := 0, pos := "law.go:197", after := #[⟨1, .data⟩, ⟨2, .data⟩, ⟨0, .phase⟩, ⟨1, .phase⟩, ⟨2, .phase⟩, ⟨3, .phase⟩, ⟨4, .phase⟩, ⟨5, .phase⟩, ⟨6, .phase⟩, ⟨7, .phase⟩, ⟨8, .phase⟩, ⟨9, .phase⟩, ⟨10, .phase⟩], guard := none } : Oper)) (v := ?av3012) rfl (by kernel_rfl) (by kernel_rfl) (by kernel_rfl) (fun _ _ _ h => h) (Or.inl ⟨by rfl, ?ay3012⟩) T3011 ?_
      case ay3012 => (intro V hSw; go_simp; try with_reducible rfl)
      try simp only [Act.put, List.setIfInBounds_toArray, List.set_cons_zero, List.set_cons_succ]
      refine wpAnyH_ready (rs := [12]) (by kernel_rfl) (by simp) ?_
      refine (AllReadyH.cons (o := _) rfl (fun K hK => ?_) AllReadyH.nil)
      go_simp
      have oo := G3011.out.o2
      rw [LEN.out] at oo
      obtain ⟨g', eg, _, cur, hcur, hcs⟩ := own_some oo (by omega)
      cases eg
      have f0 := kfree_of hcur
      have hgl := lt_of_block hcur
      have u0 := (kcells_of hcur (k * 4)).trans (Array.getElem?_eq_getElem (by omega))
      have u1 := (kcells_of hcur (k * 4 + 1)).trans (Array.getElem?_eq_getElem (by omega))
      have u2 := (kcells_of hcur (k * 4 + 2)).trans (Array.getElem?_eq_getElem (by omega))
      have u3 := (kcells_of hcur (k * 4 + 3)).trans (Array.getElem?_eq_getElem (by omega))
      have pp := G3011.out
      rw [← LEN.out] at pp
      have PUT := Lib.hid (pp.put2 (k := k) (q := (kk, dd, ss, nn)) (by rw [LEN.out]; omega) HM.out)
      rw [LEN.out] at PUT
      go_simp
      have T3013 : GR V ob (.slice q1 la.length d1) (.slice (some ⟨g9, 0, none⟩) sa.length d2) b (o + i) bl (ol + (k)) (.slice (some ⟨bl, ol, none⟩) l.length cl') z (put4 P3011 g9 k (kk, dd, ss, nn)) := ⟨PUT.out.box, (PUT.out.below.cell (p := ⟨b, o + i, none⟩) hbV).trans C0.out, (PUT.out.below.cell (p := ⟨bl, ol + (k), none⟩) hblV).trans CZ.out, PUT.out.below⟩
      try go_wp2_with fail
      refine hK.out _ _ T3013 (fun hS3013 => ?_)
      clear hK K
      try simp only [Act.put, List.setIfInBounds_toArray, List.set_cons_zero, List.set_cons_succ]
      refine wpAnyH_done (by kernel_rfl) ?_ _
      go_wp2
      go_roundg (gj - 1)
      case measure => exact hgkx
      case rel => exact ⟨k + 1, sc.set k (kk, dd, ss, nn), by go_num, by omega, by rw [List.length_set]; exact LEN.out, PUT.out⟩
     ·have hkM : M ≤ k := by omega
      by_cases hks : k < sa.length
      ·have hkn := hM4 k hkM hks
       have g1 : decide ((k : Int) < (sa.length : Int)) = true := decide_eq_true (by omega)
       have g2 : decide ((k : Int) < (l.length : Int)) = false := decide_eq_false (by omega)
       clear hkq
       go_wp2
       go_meet
       case rel => exact ⟨sc, LEN.out, GG.out⟩
      ·have g1 : decide ((k : Int) < (sa.length : Int)) = false := decide_eq_false (by omega)
       clear hkq
       go_wp2
       go_meet
       case rel => exact ⟨sc, LEN.out, GG.out⟩
   obtain ⟨sc0, hsc0, hgo⟩ := hcut
   obtain ⟨W3, hWc⟩ : ∃ x, x = wc := ⟨_, rfl⟩
   subst hWc
   have O1 := Lib.hid hgo
   clear hgo O0 hM2 hM3 hM4
   go_upto_block 8 with fail
   obtain ⟨M, hM1⟩ : ∃ M, M = min la.length (l.length - h) := ⟨_, rfl⟩
   have hM2 : M ≤ la.length := by omega
   have hM3 : ∀ k, k < M → h + k < l.length := fun k hk => by omega
   have hM4 : ∀ k, M ≤ k → k < la.length → ¬ h + k < l.length := fun k a1 a2 => by omega
   clear hM1
   go_cut [17] (fun va wx => ∃ sc : List KQ, sc.length = la.length ∧ GO V ob (.slice q1 la.length d1) (.slice q2 sa.length d2) sc sc0 wx)
   case first => as_aux_lemma =>
    go_wp2
    go_loopg [17] M (fun g kv wx => ∃ (k : Nat) (sc : List KQ), kv = .int .i64 (k : Int) ∧ k + g = M ∧ sc.length = la.length ∧ GO V ob (.slice q1 la.length d1) (.slice q2 sa.length d2) sc sc0 wx)
    case atStart => exact ⟨0, la, rfl, by omega, rfl, O1.out⟩
    case round =>
     obtain ⟨k, sc, rfl, hkg, hlen, hgo⟩ := hrel
     obtain ⟨gj, hgn2⟩ : ∃ g, g = gk := ⟨_, rfl⟩
     subst hgn2
     obtain ⟨Wk, hWk⟩ : ∃ x, x = wr := ⟨_, rfl⟩
     subst hWk
     have GG := Lib.hid hgo
     have LEN := Lib.hid hlen
     clear hgo hlen O1
     have m0 := kcells_of GG.out.box 0
     have m1 := kcells_of GG.out.box 1
     have hobW := lt_of_block GG.out.box
     simp only [List.getElem?_toArray, List.getElem?_cons_succ, List.getElem?_cons_zero] at m0 m1
     have n2 := (GG.out.below.cell (p := ⟨b, o + i, none⟩) hbV).trans C0.out
     have hiI : (i : Int) < (ls.length : Int) := by omega
     have hkb : k ≤ la.length → IntKind.i64.wrap ((h : Int) + (k : Int)) = (h : Int) + (k : Int) := fun hk => IntWalk.i64_in _ (by have := S1.out.ll; omega)
     by_cases hkq : k < M
     ·have hgkx : gj - 1 < gj := by omega
      have hkl : h + k < l.length := hM3 k hkq
      have g1 : decide ((k : Int) < (la.length : Int)) = true := decide_eq_true (by omega)
      have g2 : decide ((h : Int) + (k : Int) < (l.length : Int)) = true := decide_eq_true (by omega)
      have hkI : (k : Int) < (la.length : Int) := by omega
      have hkI2 : (h : Int) + (k : Int) < (l.length : Int) := by omega
      have wi := hkb (by omega)
      have tn : ((h : Int) + (k : Int)).toNat = h + k := by omega
      have hk0 : (0 : Int) ≤ (h : Int) + (k : Int) := by omega
      obtain ⟨z, hz⟩ : ∃ z, l[h + k]? = some z := ⟨_, List.getElem?_eq_getElem hkl⟩
      obtain ⟨bl, ol, rfl, hblU, cz⟩ := IL.out.at_ hz
      have hblV : bl < V.heap.size := by omega
      have CZ := Lib.hid ((S1.out.below.cell (p := ⟨bl, ol + (h + k), none⟩) hblU).trans cz)
      have n3 := (GG.out.below.cell (p := ⟨bl, ol + (h + k), none⟩) hblV).trans CZ.out
      have oo := GG.out.o1
      rw [LEN.out] at oo
      obtain ⟨g9, rfl, hg9, cur, hcur, hcs⟩ := own_some oo (by omega)
      have BZ := Lib.hid (BL.out z (List.mem_of_getElem? hz))
      clear cz hz oo hcur hcs cur
      go_upto_region 30 with fail
      have GD := Lib.hid GG.out.drew
      have T0 := (⟨GD.out.box, n2, n3, GD.out.below⟩ : GR V ob (.slice (some ⟨g9, 0, none⟩) la.length d1) (.slice q2 sa.length d2) b (o + i) bl (ol + (h + k)) (.slice (some ⟨bl, ol, none⟩) l.length cl') z Wk.drew)
      refine wp_region_held_drew (S := fun W => GR V ob (.slice (some ⟨g9, 0, none⟩) la.length d1) (.slice q2 sa.length d2) b (o + i) bl (ol + (h + k)) (.slice (some ⟨bl, ol, none⟩) l.length cl') z W) (by kernel_rfl) T0 (fun hS0 => ?_)
      refine wpAnyH_take (i := 0) (oi := ({ dst := some 122, op := .fieldAddr 75 (.tmp 15) 0, type := 0, pos := "law.go:200", after := #[], guard := none } : Oper)) (v := ?av3014) rfl (by kernel_rfl) (by kernel_rfl) (by kernel_rfl) (fun _ _ _ h => h) (Or.inl ⟨by rfl, ?ay3014⟩) T0 ?_
      case ay3014 => (intro V hSw; go_simp; try with_reducible rfl)
      try simp only [Act.put, List.setIfInBounds_toArray, List.set_cons_zero, List.set_cons_succ]
      refine wpAnyH_take (i := 1) (oi := ({ dst := some 123, op := .load 60 (.tmp 122), type := 60, pos := "law.go:200", after := #[⟨0, .data⟩], guard := none } : Oper)) (v := ?av3015) rfl (by kernel_rfl) (by kernel_rfl) (by kernel_rfl) (fun _ _ _ h => h) (Or.inl ⟨by rfl, ?ay3015⟩) T0 ?_
      case ay3015 => (intro V hSw; have t1 := kcells_of hSw.box 0; simp only [List.getElem?_toArray, List.getElem?_cons_succ, List.getElem?_cons_zero] at t1; go_simp; try with_reducible rfl)
      try simp only [Act.put, List.setIfInBounds_toArray, List.set_cons_zero, List.set_cons_succ]
      refine wpAnyH_take (i := 2) (oi := ({ dst := some 124, op := .move (.tmp 17), type := 3, pos := "law.go:200", after := #[], guard := none } : Oper)) (v := ?av3016) rfl (by kernel_rfl) (by kernel_rfl) (by kernel_rfl) (fun _ _ _ h => h) (Or.inl ⟨by rfl, ?ay3016⟩) T0 ?_
      case ay3016 => (intro V hSw; go_simp; try with_reducible rfl)
      try simp only [Act.put, List.setIfInBounds_toArray, List.set_cons_zero, List.set_cons_succ]
      refine wpAnyH_take (i := 3) (oi := ({ dst := some 125, op := .move (.tmp 2), type := 86, pos := "law.go:200", after := #[], guard := none } : Oper)) (v := ?av3017) rfl (by kernel_rfl) (by kernel_rfl) (by kernel_rfl) (fun _ _ _ h => h) (Or.inl ⟨by rfl, ?ay3017⟩) T0 ?_
      case ay3017 => (intro V hSw; go_simp; try with_reducible rfl)
      try simp only [Act.put, List.setIfInBounds_toArray, List.set_cons_zero, List.set_cons_succ]
      refine wpAnyH_take (i := 4) (oi := ({ dst := some 126, op := .move (.tmp 14), type := 3, pos := "law.go:200", after := #[], guard := none } : Oper)) (v := ?av3018) rfl (by kernel_rfl) (by kernel_rfl) (by kernel_rfl) (fun _ _ _ h => h) (Or.inl ⟨by rfl, ?ay3018⟩) T0 ?_
      case ay3018 => (intro V hSw; go_simp; try with_reducible rfl)
      try simp only [Act.put, List.setIfInBounds_toArray, List.set_cons_zero, List.set_cons_succ]
      refine wpAnyH_take (i := 5) (oi := ({ dst := some 127, op := .indexAddr 86 (.tmp 125) (.tmp 126), type := 0, pos := "law.go:200", after := #[⟨3, .data⟩, ⟨4, .data⟩], guard := none } : Oper)) (v := ?av3019) rfl (by kernel_rfl) (by kernel_rfl) (by kernel_rfl) (fun _ _ _ h => h) (Or.inl ⟨by rfl, ?ay3019⟩) T0 ?_
      case ay3019 => (intro V hSw; go_simp; try with_reducible rfl)
      try simp only [Act.put, List.setIfInBounds_toArray, List.set_cons_zero, List.set_cons_succ]
      refine wpAnyH_take (i := 6) (oi := ({ dst := some 128, op := .load 29 (.tmp 127), type := 29, pos := "law.go:200", after := #[⟨5, .data⟩], guard := none } : Oper)) (v := ?av3020) rfl (by kernel_rfl) (by kernel_rfl) (by kernel_rfl) (fun _ _ _ h => h) (Or.inl ⟨by rfl, ?ay3020⟩) T0 ?_
      case ay3020 => (intro V hSw; have tc := hSw.cl; go_simp; try with_reducible rfl)
      try simp only [Act.put, List.setIfInBounds_toArray, List.set_cons_zero, List.set_cons_succ]
      refine wpAnyH_take (i := 7) (oi := ({ dst := some 129, op := .move (.tmp 0), type := 3, pos := "law.go:200", after := #[], guard := none } : Oper)) (v := ?av3021) rfl (by kernel_rfl) (by kernel_rfl) (by kernel_rfl) (fun _ _ _ h => h) (Or.inl ⟨by rfl, ?ay3021⟩) T0 ?_
      case ay3021 => (intro V hSw; go_simp; try with_reducible rfl)
      try simp only [Act.put, List.setIfInBounds_toArray, List.set_cons_zero, List.set_cons_succ]
      refine wpAnyH_take (i := 8) (oi := ({ dst := some 130, op := .move (.tmp 17), type := 3, pos := "law.go:200", after := #[], guard := none } : Oper)) (v := ?av3022) rfl (by kernel_rfl) (by kernel_rfl) (by kernel_rfl) (fun _ _ _ h => h) (Or.inl ⟨by rfl, ?ay3022⟩) T0 ?_
      case ay3022 => (intro V hSw; go_simp; try with_reducible rfl)
      try simp only [Act.put, List.setIfInBounds_toArray, List.set_cons_zero, List.set_cons_succ]
      refine wpAnyH_take (i := 9) (oi := ({ dst := some 131, op := .binOp .add 3 (.tmp 129) (.tmp 130) 3, type := 3, pos := "law.go:200", after := #[⟨7, .data⟩, ⟨8, .data⟩], guard := none } : Oper)) (v := ?av3023) rfl (by kernel_rfl) (by kernel_rfl) (by kernel_rfl) (fun _ _ _ h => h) (Or.inl ⟨by rfl, ?ay3023⟩) T0 ?_
      case ay3023 => (intro V hSw; go_simp; try with_reducible rfl)
      try simp only [Act.put, List.setIfInBounds_toArray, List.set_cons_zero, List.set_cons_succ]
      refine wpAnyH_take (i := 10) (oi := ({ dst := some 132, op := .indexAddr 29 (.tmp 128) (.tmp 131), type := 0, pos := "law.go:200", after := #[⟨6, .data⟩, ⟨9, .data⟩], guard := none } : Oper)) (v := ?av3024) rfl (by kernel_rfl) (by kernel_rfl) (by kernel_rfl) (fun _ _ _ h => h) (Or.inl ⟨by rfl, ?ay3024⟩) T0 ?_
      case ay3024 => (intro V hSw; go_simp; try with_reducible rfl)
      try simp only [Act.put, List.setIfInBounds_toArray, List.set_cons_zero, List.set_cons_succ]
      refine wpAnyH_take (i := 11) (oi := ({ dst := some 133, op := .load 3 (.tmp 132), type := 3, pos := "law.go:200", after := #[⟨10, .data⟩], guard := none } : Oper)) (v := ?av3025) rfl (by kernel_rfl) (by kernel_rfl) (by kernel_rfl) (fun _ _ _ h => h) (Or.inl ⟨by rfl, ?ay3025⟩) T0 ?_
      case ay3025 => (intro V hSw; have tz := hSw.cz; go_simp; try with_reducible rfl)
      try simp only [Act.put, List.setIfInBounds_toArray, List.set_cons_zero, List.set_cons_succ]
      refine wpAnyH_ready (rs := [12]) (by kernel_rfl) (by simp) ?_
      refine (AllReadyH.cons (o := _) rfl (fun K hK => ?_) AllReadyH.nil)
      go_simp
      refine (known_q z BZ.out _).mono ?_
      rintro e P3026 ⟨kk, dd, nn, ss, hm, rfl, hb3026⟩
      have HM := Lib.hid hm
      have G3026 := Lib.hid (GD.out.next hb3026)
      have T3026 : GR V ob (.slice (some ⟨g9, 0, none⟩) la.length d1) (.slice q2 sa.length d2) b (o + i) bl (ol + (h + k)) (.slice (some ⟨bl, ol, none⟩) l.length cl') z P3026 := ⟨G3026.out.box, (G3026.out.below.cell (p := ⟨b, o + i, none⟩) hbV).trans C0.out, (G3026.out.below.cell (p := ⟨bl, ol + (h + k), none⟩) hblV).trans CZ.out, G3026.out.below⟩
      clear hm hb3026
      try go_wp2_with fail
      refine hK.out _ _ T3026 (fun hS3026 => ?_)
      clear hK K
      try simp only [Act.put, List.setIfInBounds_toArray, List.set_cons_zero, List.set_cons_succ]
      refine wpAnyH_take (i := 13) (oi := ({ dst := some 135, op := .indexAddr 60 (.tmp 123) (.tmp 124), type := 0, pos := "law.go:200", after := #[⟨1, .data⟩, ⟨2, .data⟩, ⟨0, .phase⟩, ⟨1, .phase⟩, ⟨2, .phase⟩, ⟨3, .phase⟩, ⟨4, .phase⟩, ⟨5, .phase⟩, ⟨6, .phase⟩, ⟨7, .phase⟩, ⟨8, .phase⟩, ⟨9, .phase⟩, ⟨10, .phase⟩, ⟨11, .phase⟩, ⟨12, .phase⟩], guard := none } : Oper)) (v := ?av3027) rfl (by kernel_rfl) (by kernel_rfl) (by kernel_rfl) (fun _ _ _ h => h) (Or.inl ⟨by rfl, ?ay3027⟩) T3026 ?_
      case ay3027 => (intro V hSw; go_simp; try with_reducible rfl)
      try simp only [Act.put, List.setIfInBounds_toArray, List.set_cons_zero, List.set_cons_succ]
      refine wpAnyH_ready (rs := [14]) (by kernel_rfl) (by simp) ?_
      refine (AllReadyH.cons (o := _) rfl (fun K hK => ?_) AllReadyH.nil)
      go_simp
      have oo := G3026.out.o1
      rw [LEN.out] at oo
      obtain ⟨g', eg, _, cur, hcur, hcs⟩ := own_some oo (by omega)
      cases eg
      have f0 := kfree_of hcur
      have hgl := lt_of_block hcur
      have u0 := (kcells_of hcur (k * 4)).trans (Array.getElem?_eq_getElem (by omega))
      have u1 := (kcells_of hcur (k * 4 + 1)).trans (Array.getElem?_eq_getElem (by omega))
      have u2 := (kcells_of hcur (k * 4 + 2)).trans (Array.getElem?_eq_getElem (by omega))
      have u3 := (kcells_of hcur (k * 4 + 3)).trans (Array.getElem?_eq_getElem (by omega))
      have pp := G3026.out
      rw [← LEN.out] at pp
      have PUT := Lib.hid (pp.put1 (k := k) (q := (kk, dd, ss, nn)) (by rw [LEN.out]; omega) HM.out)
      rw [LEN.out] at PUT
      go_simp
      have T3028 : GR V ob (.slice (some ⟨g9, 0, none⟩) la.length d1) (.slice q2 sa.length d2) b (o + i) bl (ol + (h + k)) (.slice (some ⟨bl, ol, none⟩) l.length cl') z (put4 P3026 g9 k (kk, dd, ss, nn)) := ⟨PUT.out.box, (PUT.out.below.cell (p := ⟨b, o + i, none⟩) hbV).trans C0.out, (PUT.out.below.cell (p := ⟨bl, ol + (h + k), none⟩) hblV).trans CZ.out, PUT.out.below⟩
      try go_wp2_with fail
      refine hK.out _ _ T3028 (fun hS3028 => ?_)
      clear hK K
      try simp only [Act.put, List.setIfInBounds_toArray, List.set_cons_zero, List.set_cons_succ]
      refine wpAnyH_done (by kernel_rfl) ?_ _
      go_wp2
      go_roundg (gj - 1)
      case measure => exact hgkx
      case rel => exact ⟨k + 1, sc.set k (kk, dd, ss, nn), by go_num, by omega, by rw [List.length_set]; exact LEN.out, PUT.out⟩
     ·have hkM : M ≤ k := by omega
      by_cases hks : k < la.length
      ·have hkn := hM4 k hkM hks
       have g1 : decide ((k : Int) < (la.length : Int)) = true := decide_eq_true (by omega)
       have g2 : decide ((h : Int) + (k : Int) < (l.length : Int)) = false := decide_eq_false (by omega)
       have wi := hkb (by omega)
       clear hkq
       go_wp2
       go_meet
       case rel => exact ⟨sc, LEN.out, GG.out⟩
      ·have g1 : decide ((k : Int) < (la.length : Int)) = false := decide_eq_false (by omega)
       clear hkq
       go_wp2
       go_meet
       case rel => exact ⟨sc, LEN.out, GG.out⟩
   obtain ⟨lb0, hlb0, hgo⟩ := hcut
   obtain ⟨W4, hWc⟩ : ∃ x, x = wc := ⟨_, rfl⟩
   subst hWc
   have O2 := Lib.hid hgo
   clear hgo O1 hM2 hM3 hM4
   have S4 := Lib.hid (S1.out.next O2.out.below)
   have nlb : lb0.length = la.length := hlb0
   have nsc : sc0.length = sa.length := hsc0
   have hz4 := O2.out.below.size
   have m0 := kcells_of S4.out.box 0
   have m1 := kcells_of S4.out.box 1
   have o0 := kcells_of O2.out.box 0
   have o1 := kcells_of O2.out.box 1
   simp only [List.getElem?_toArray, List.getElem?_cons_succ, List.getElem?_cons_zero] at m0 m1 o0 o1
   have hsb4 := lt_of_block S4.out.box
   have hob4 := lt_of_block O2.out.box
   have hlo5 : la.length < 5 := by have := S1.out.ll; omega
   have hst5 : sa.length < 5 := by have := S1.out.ls; omega
   have HJ := Lib.hid (JoinStates_any (B := W4.heap.size) la sa lb0 sc0 _ _ _ _ W4 (HT.out.below (S4.out.below.mono HT.out.hB)) S4.out.rx S4.out.ry (show KRow W4.heap.size W4 (.slice q1 la.length d1) lb0 from Row.hof_own O2.out.o1) (show KRow W4.heap.size W4 (.slice q2 sa.length d2) sc0 from Row.hof_own O2.out.o2) (Nat.le_refl _) S1.out.okx.small S1.out.oky.small O2.out.inx.2.small O2.out.iny.2.small (by omega) (by omega) (by omega))
   have NLB := Lib.hid nlb
   have NSC := Lib.hid nsc
   clear nlb nsc hlb0 hsc0
   go_wp2_with fail
   refine HJ.out.mono ?_
   rintro e W5 ⟨p1, l1, p2, l2, rfl, hp1, hp2, kb1, kb2, j1, j2, hb5⟩
   clear HJ m0 m1 o0 o1
   have n1 : l1.length = la.length := by have := j1.1; have := NLB.out; omega
   have n2' : l2.length = sa.length := by have := j2.1; have := NSC.out; omega
   have J1 := Lib.hid j1
   have J2 := Lib.hid j2
   have N1 := Lib.hid n1
   have N2 := Lib.hid n2'
   rw [n1, n2']
   clear j1 j2 n1 n2'
   obtain ⟨W6, hW6⟩ : ∃ x, (W5.alloc (.cells #[.slice (some ⟨p1, 0, none⟩) la.length la.length, .slice (some ⟨p2, 0, none⟩) sa.length sa.length] 75)) = x := ⟨_, rfl⟩
   obtain ⟨jb, hjb⟩ : ∃ b, b = W5.heap.size := ⟨_, rfl⟩
   have hb6 : Below W5.heap.size W5 W6 := by rw [← hW6]; exact (Below.refl _ _).alloc (Nat.le_refl _) _
   have jbox : W6.heap[jb]? = some (.cells #[.slice (some ⟨p1, 0, none⟩) la.length la.length, .slice (some ⟨p2, 0, none⟩) sa.length sa.length] 75 (0, 0)) := by rw [← hW6, hjb]; exact hheap_new _ _
   have hb46 := Below.hlink hb5 hb6
   have S6 := Lib.hid (S4.out.next hb46)
   have O6 := Lib.hid (O2.out.next hb46)
   have KB1 := Lib.hid (kb1.below hb6)
   have KB2 := Lib.hid (kb2.below hb6)
   have JB := Lib.hid jbox
   have hjb4 : W4.heap.size ≤ jb := by have := hb5.size; omega
   clear kb1 kb2 jbox hb5 hb6 hb46 S4 O2
   go_upto_region 32 with fail
   try rw [← hjb]
   try rw [hW6]
   clear hW6 hjb
   have m0 := kcells_of S6.out.box 0
   have m1 := kcells_of S6.out.box 1
   have o0 := kcells_of O6.out.box 0
   have o1 := kcells_of O6.out.box 1
   have j0 := kcells_of JB.out 0
   have j1 := kcells_of JB.out 1
   simp only [List.getElem?_toArray, List.getElem?_cons_succ, List.getElem?_cons_zero] at m0 m1 o0 o1 j0 j1
   have hsb6 := lt_of_block S6.out.box
   have hob6 := lt_of_block O6.out.box
   have hjb6 := lt_of_block JB.out
   have R1 := Lib.hid (show KRow W6.heap.size W6 (.slice (some ⟨p1, 0, none⟩) la.length la.length) l1 from N1.out ▸ KB1.out.row (by rw [N1.out]; unfold maxLen; omega) (lt_of_block KB1.out))
   have R2 := Lib.hid (show KRow W6.heap.size W6 (.slice (some ⟨p2, 0, none⟩) sa.length sa.length) l2 from N2.out ▸ KB2.out.row (by rw [N2.out]; unfold maxLen; omega) (lt_of_block KB2.out))
   have OK1 := Lib.hid (J1.out.ok S1.out.okx O6.out.inx.2)
   have OK2 := Lib.hid (J2.out.ok S1.out.oky O6.out.iny.2)
   go_wp2_with fail
   refine (BelowStates_any (B := W6.heap.size) la sa l1 l2 _ _ _ _ W6 (HT.out.below (S6.out.below.mono HT.out.hB)) S6.out.rx S6.out.ry R1.out R2.out (Nat.le_refl _) S1.out.okx.small S1.out.oky.small OK1.out.small OK2.out.small).mono ?_
   rintro e W7 hans
   obtain ⟨rfl, hb7⟩ := hans.yes ⟨N2.out.symm, J1.out.left NLB.out.symm S1.out.okx O6.out.inx.2, J2.out.left NSC.out.symm S1.out.oky O6.out.iny.2⟩
   clear hans
   have S7 := Lib.hid (S6.out.next hb7)
   have O7 := Lib.hid (O6.out.next hb7)
   have KC1 := Lib.hid (KB1.out.below hb7)
   have KC2 := Lib.hid (KB2.out.below hb7)
   have JC := Lib.hid ((hb7.block _ hjb6).trans JB.out)
   have R3 := Lib.hid (R1.out.nx hb7)
   have R4 := Lib.hid (R2.out.nx hb7)
   clear m0 m1 o0 o1 j0 j1 hsb6 hob6 hjb6 S6 O6 KB1 KB2 JB R1 R2 hb7
   have m0 := kcells_of S7.out.box 0
   have m1 := kcells_of S7.out.box 1
   have o0 := kcells_of O7.out.box 0
   have o1 := kcells_of O7.out.box 1
   have j0 := kcells_of JC.out 0
   have j1 := kcells_of JC.out 1
   simp only [List.getElem?_toArray, List.getElem?_cons_succ, List.getElem?_cons_zero] at m0 m1 o0 o1 j0 j1
   have hsb7 := lt_of_block S7.out.box
   have hob7 := lt_of_block O7.out.box
   have hjb7 := lt_of_block JC.out
   go_wp2_with fail
   refine (BelowStates_any (B := W7.heap.size) lb0 sc0 l1 l2 _ _ _ _ W7 (HT.out.below (S7.out.below.mono HT.out.hB)) (show KRow W7.heap.size W7 (.slice q1 la.length d1) lb0 from Row.hof_own O7.out.o1) (show KRow W7.heap.size W7 (.slice q2 sa.length d2) sc0 from Row.hof_own O7.out.o2) R3.out R4.out (Nat.le_refl _) O7.out.inx.2.small O7.out.iny.2.small OK1.out.small OK2.out.small).mono ?_
   rintro e W8 hans
   obtain ⟨rfl, hb8⟩ := hans.yes ⟨by rw [N2.out, NSC.out], J1.out.right NLB.out.symm S1.out.okx O7.out.inx.2, J2.out.right NSC.out.symm S1.out.oky O7.out.iny.2⟩
   clear hans
   have RI1 := Lib.hid (J1.out.rise NLB.out.symm S1.out.inx O7.out.inx.1)
   have RI2 := Lib.hid (J2.out.rise NSC.out.symm S1.out.iny O7.out.iny.1)
   have S8 := Lib.hid (S7.out.next hb8)
   have KD1 := Lib.hid (KC1.out.below hb8)
   have KD2 := Lib.hid (KC2.out.below hb8)
   have JD := Lib.hid ((hb8.block _ hjb7).trans JC.out)
   have R5 := Lib.hid (R3.out.nx hb8)
   have R6 := Lib.hid (R4.out.nx hb8)
   clear m0 m1 o0 o1 j0 j1 hsb7 hob7 hjb7 S7 O7 KC1 KC2 JC R3 R4 hb8
   have m0 := kcells_of S8.out.box 0
   have m1 := kcells_of S8.out.box 1
   have j0 := kcells_of JD.out 0
   have j1 := kcells_of JD.out 1
   simp only [List.getElem?_toArray, List.getElem?_cons_succ, List.getElem?_cons_zero] at m0 m1 j0 j1
   have hsb8 := lt_of_block S8.out.box
   have hjb8 := lt_of_block JD.out
   go_wp2_with fail
   refine (Same_any (B := W8.heap.size) la sa l1 l2 _ _ _ _ W8 S8.out.rx S8.out.ry R5.out R6.out (Nat.le_refl _)).mono ?_
   rintro e W9 ⟨rfl, hb9⟩
   have S9 := Lib.hid (S8.out.next hb9)
   have KE1 := Lib.hid (KD1.out.below hb9)
   have KE2 := Lib.hid (KD2.out.below hb9)
   have JE := Lib.hid ((hb9.block _ hjb8).trans JD.out)
   clear m0 m1 j0 j1 hsb8 hjb8 S8 KD1 KD2 JD R5 R6 hb9
   have m0 := kcells_of S9.out.box 0
   have m1 := kcells_of S9.out.box 1
   have mf := kfree_of S9.out.box
   have j0 := kcells_of JE.out 0
   have j1 := kcells_of JE.out 1
   simp only [List.getElem?_toArray, List.getElem?_cons_succ, List.getElem?_cons_zero] at m0 m1 j0 j1
   have hsb9 := lt_of_block S9.out.box
   have hjb9 := lt_of_block JE.out
   have hh := S1.out.tot
   have wt : IntKind.i64.wrap ((t : Int) + 1) = ((t + 1 : Nat) : Int) := by rw [IntWalk.i64_in _ (by omega)]; omega
   have wi1 : IntKind.i64.wrap ((i : Int) + 1) = ((i + 1 : Nat) : Int) := by rw [IntWalk.i64_in _ (by omega)]; omega
   have hd1 : p1 ≠ sb := by omega
   have hd2 : p2 ≠ sb := by omega
   have NEW := Lib.hid (fun (t' : Nat) (ht : t' + sumH l1 + sumH l2 ≤ 6 * (h + lo)) => (show GS U sb lo h t' (.slice (some ⟨p1, 0, none⟩) la.length la.length) (.slice (some ⟨p2, 0, none⟩) sa.length sa.length) l1 l2 ((W9.setCell ⟨sb, 0, none⟩ (.slice (some ⟨p1, 0, none⟩) la.length la.length)).setCell ⟨sb, 1, none⟩ (.slice (some ⟨p2, 0, none⟩) sa.length sa.length)) from by
    have k1' := (KE1.out.other (i := 0) (u := .slice (some ⟨p1, 0, none⟩) la.length la.length) hd1).other (i := 1) (u := .slice (some ⟨p2, 0, none⟩) sa.length sa.length) hd1
    have k2' := (KE2.out.other (i := 0) (u := .slice (some ⟨p1, 0, none⟩) la.length la.length) hd2).other (i := 1) (u := .slice (some ⟨p2, 0, none⟩) sa.length sa.length) hd2
    exact ⟨set2 S9.out.box _ _, N1.out ▸ k1'.row (by rw [N1.out]; unfold maxLen; omega) (lt_of_block k1'), N2.out ▸ k2'.row (by rw [N2.out]; unfold maxLen; omega) (lt_of_block k2'), ⟨_, _, _, rfl, .inr ⟨p1, 0, rfl⟩⟩, ⟨_, _, _, rfl, .inr ⟨p2, 0, rfl⟩⟩, by rw [N1.out]; exact S1.out.ll, by rw [N2.out]; exact S1.out.ls, RI1.out.1, RI2.out.1, OK1.out, OK2.out, ht, (S9.out.below.setCell (p := ⟨sb, 0, none⟩) hsb _).setCell (p := ⟨sb, 1, none⟩) hsb _⟩))
   obtain ⟨r, hr⟩ : ∃ r, (decide (la = l1) && decide (sa = l2)) = r := ⟨_, rfl⟩
   rw [hr]
   have HR := Lib.hid hr
   clear hr hd1 hd2
   have TOT := Lib.hid hh
   clear hh
   cases r with
   | true =>
    go_wp2
    go_roundg (gi - 1)
    case measure => exact hgx
    case rel => exact ⟨t, i + 1, _, _, l1, l2, rfl, by go_num, by omega, NEW.out t (by have := RI1.out.2.1; have := RI2.out.2.1; have := TOT.out; omega)⟩
   | false =>
    have hlt : sumH l1 + sumH l2 < sumH la + sumH sa := by
     rcases RI1.out.2.2 with e1' | e1'
     ·rcases RI2.out.2.2 with e2' | e2'
      ·have := HR.out
       rw [e1', e2', decide_eq_true rfl, decide_eq_true rfl] at this
       cases this
      ·have := RI1.out.2.1
       omega
     ·have := RI2.out.2.1
      omega
    go_wp2
    go_roundg (gi - 1)
    case measure => exact hgx
    case rel => exact ⟨t + 1, i + 1, _, _, l1, l2, by go_num, by go_num, by omega, NEW.out (t + 1) (by have := TOT.out; omega)⟩
  ·have hiN : N ≤ i := by omega
   have hh := S1.out.tot
   have wf1 : IntKind.i64.wrap ((h : Int) + (lo : Int)) = (h : Int) + (lo : Int) := IntWalk.i64_in _ (by omega)
   have wf2 : IntKind.i64.wrap (6 * ((h : Int) + (lo : Int))) = 6 * ((h : Int) + (lo : Int)) := IntWalk.i64_in _ (by omega)
   have ef : decide ((t : Int) ≤ 6 * ((h : Int) + (lo : Int))) = true := decide_eq_true (by omega)
   have TOT := Lib.hid hh
   have BF := Lib.hid (Below.hlink BU.out S1.out.below)
   clear hh
   by_cases hil : i < ls.length
   ·have hi9 := hN4 i hiN hil
    have e1 : decide ((i : Int) < (ls.length : Int)) = true := decide_eq_true (by omega)
    have e2 : decide ((i : Int) < 100) = false := decide_eq_false (by omega)
    clear hiq
    go_wp2
    go_ret
    exact ⟨by first | rfl | (rw [ef]), BF.out⟩
   ·have e1 : decide ((i : Int) < (ls.length : Int)) = false := decide_eq_false (by omega)
    clear hiq
    go_wp2
    go_ret
    exact ⟨by first | rfl | (rw [ef]), BF.out⟩
end Go.Proofs.YtmaknddlgppinaaGreatDoor
