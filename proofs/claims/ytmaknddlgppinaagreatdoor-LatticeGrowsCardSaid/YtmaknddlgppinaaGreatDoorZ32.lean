/-
  CUT and joined from the texts of this seat: Me Mi Rp
-/
import Derived.Test.YtmaknddlgppinaaGreatDoorZ01
import Derived.Test.YtmaknddlgppinaaGreatDoorZ18
import Derived.Test.YtmaknddlgppinaaGreatDoorZ31
import Derived.Test.YtmaknddlgppinaaGreatDoorZ03
import Derived.Deep.RegionHeld3
set_option linter.unusedVariables false
set_option linter.unusedSimpArgs false
namespace Go.Proofs.YtmaknddlgppinaaGreatDoor
open Go.RowKit
theorem results113 : Tryz.f113.results = #[ResultVar.cell 4 94] := by kernel_rfl
set_option maxRecDepth 1000000 in
set_option maxHeartbeats 6400000 in
theorem file7_any (nm sp : ByteArray) (w : World) :
  Calls Tryz.prog 113 #[.string nm, .string sp] w fun e w' => ∃ b c, e = .returned (.agg #[.slice (some ⟨b, 0, none⟩) 4 c, .int .i64 0, .int .i64 2, .int .i64 4, .slice none 0 0, .slice none 0 0, .slice none 0 0]) ∧ FileV w' (.agg #[.slice (some ⟨b, 0, none⟩) 4 c, .int .i64 0, .int .i64 2, .int .i64 4, .slice none 0 0, .slice none 0 0, .slice none 0 0]) (rawP 0 nm sp []) ∧ Below w.heap.size w w' := by
 go_enter Tryz.func113, Tryz.ntmps113
 go_wp2
 have hb0 : ((w.alloc (.cells #[.slice (some ⟨w.heap.size + 1, 0, none⟩) 4 4, .int .i64 0, .int .i64 2, .int .i64 4, .slice none 0 0, .slice none 0 0, .slice none 0 0] 94)).alloc (.cells #[.int .i64 1, .string nm, .int .i64 0, .int .i64 0, .int .i64 0, .int .i64 0, .int .i64 4, .string ⟨#[]⟩, .int .i64 0, .int .i64 1, .int .i64 0, .int .i64 0, .int .i64 1, .string sp, .int .i64 0, .int .i64 0, .int .i64 0, .int .i64 0, .int .i64 4, .string ⟨#[]⟩, .int .i64 0, .int .i64 3, .int .i64 0, .int .i64 0] 138)).heap[w.heap.size]? = some (.cells #[.slice (some ⟨w.heap.size + 1, 0, none⟩) 4 4, .int .i64 0, .int .i64 2, .int .i64 4, .slice none 0 0, .slice none 0 0, .slice none 0 0] 94 (0, 0)) := hheap_alloc_lt (hheap_new w _)
 have hP : ((w.alloc (.cells #[.slice (some ⟨w.heap.size + 1, 0, none⟩) 4 4, .int .i64 0, .int .i64 2, .int .i64 4, .slice none 0 0, .slice none 0 0, .slice none 0 0] 94)).alloc (.cells #[.int .i64 1, .string nm, .int .i64 0, .int .i64 0, .int .i64 0, .int .i64 0, .int .i64 4, .string ⟨#[]⟩, .int .i64 0, .int .i64 1, .int .i64 0, .int .i64 0, .int .i64 1, .string sp, .int .i64 0, .int .i64 0, .int .i64 0, .int .i64 0, .int .i64 4, .string ⟨#[]⟩, .int .i64 0, .int .i64 3, .int .i64 0, .int .i64 0] 138)).heap[w.heap.size + 1]? = some (.cells ((poolR nm sp ([] : List ByteArray)).flatMap ccells).toArray 138 (0, 0)) := hheap_at _ _ _ (by simp)
 have hbel : Below w.heap.size w ((w.alloc (.cells #[.slice (some ⟨w.heap.size + 1, 0, none⟩) 4 4, .int .i64 0, .int .i64 2, .int .i64 4, .slice none 0 0, .slice none 0 0, .slice none 0 0] 94)).alloc (.cells #[.int .i64 1, .string nm, .int .i64 0, .int .i64 0, .int .i64 0, .int .i64 0, .int .i64 4, .string ⟨#[]⟩, .int .i64 0, .int .i64 1, .int .i64 0, .int .i64 0, .int .i64 1, .string sp, .int .i64 0, .int .i64 0, .int .i64 0, .int .i64 0, .int .i64 4, .string ⟨#[]⟩, .int .i64 0, .int .i64 3, .int .i64 0, .int .i64 0] 138)) := ((Below.refl _ _).alloc (Nat.le_refl _) _).alloc (by simp) _
 have hown := hown_new (base := w.heap.size) (size := 6) (n := 4) hP (by omega) rfl (by unfold maxLen; decide)
 obtain ⟨WF, hWF⟩ : ∃ W, W = ((w.alloc (.cells #[.slice (some ⟨w.heap.size + 1, 0, none⟩) 4 4, .int .i64 0, .int .i64 2, .int .i64 4, .slice none 0 0, .slice none 0 0, .slice none 0 0] 94)).alloc (.cells #[.int .i64 1, .string nm, .int .i64 0, .int .i64 0, .int .i64 0, .int .i64 0, .int .i64 4, .string ⟨#[]⟩, .int .i64 0, .int .i64 1, .int .i64 0, .int .i64 0, .int .i64 1, .string sp, .int .i64 0, .int .i64 0, .int .i64 0, .int .i64 0, .int .i64 4, .string ⟨#[]⟩, .int .i64 0, .int .i64 3, .int .i64 0, .int .i64 0] 138)) := ⟨_, rfl⟩
 rw [← hWF] at hb0 hP hbel hown ⊢
 have z0 := kcells_of hb0 0
 have z1 := kcells_of hb0 1
 have z2 := kcells_of hb0 2
 have z3 := kcells_of hb0 3
 have z4 := kcells_of hb0 4
 have z5 := kcells_of hb0 5
 have z6 := kcells_of hb0 6
 simp only [List.getElem?_toArray, List.getElem?_cons_succ, List.getElem?_cons_zero] at z0 z1 z2 z3 z4 z5 z6
 refine bodyPost_ret (v := .agg #[.slice (some ⟨w.heap.size + 1, 0, none⟩) 4 4, .int .i64 0, .int .i64 2, .int .i64 4, .slice none 0 0, .slice none 0 0, .slice none 0 0]) (by simp [results, results113, go_sem, z0, z1, z2, z3, z4, z5, z6]) rfl ?_
 exact ⟨_, _, rfl, FileV.of (l := []) hown (World.ownsRow_nil _ _ _ _), hbel⟩
/-- The same file with other flags. -/
theorem FileV.flag {w : World} {nm sp : ByteArray} {vp vi : Value} (h : FileV w (.agg #[vp, .int .i64 0, .int .i64 2, .int .i64 4, vi, .slice none 0 0, .slice none 0 0]) (rawP 0 nm sp [])) : FileV w (.agg #[vp, .int .i64 3, .int .i64 2, .int .i64 4, vi, .slice none 0 0, .slice none 0 0]) (rawP 3 nm sp []) := by
 refine ⟨?_, vp, vi, rfl⟩
 obtain ⟨⟨Ap, cp, Ai, ci, Af, cf, Am, cm, e, h⟩, _⟩ := h
 injection e with e
 simp only [Array.mk.injEq, List.cons.injEq, and_true] at e
 obtain ⟨rfl, _, _, _, rfl, e1, e2⟩ := e
 injection e1 with a1 a2 a3
 injection e2 with b1 b2 b3
 subst a1 a3 b1 b3
 exact ⟨Ap, cp, Ai, ci, none, 0, none, 0, rfl, h.pool, h.ifs, h.fds, h.mts⟩
def rs7 : List Rw := [⟨0, 0, 6, []⟩, ⟨0, 1, 0, []⟩, ⟨0, 2, 0, []⟩, ⟨3, 4, 6, []⟩]
def fl7 : List Fl := [rawP 0 ⟨#[65]⟩ ⟨#[79, 98, 106, 101, 99, 116]⟩ [], rawP 0 ⟨#[66]⟩ ⟨#[65]⟩ [], rawP 0 ⟨#[67]⟩ ⟨#[65]⟩ [], rawP 3 ⟨#[73]⟩ ⟨#[79, 98, 106, 101, 99, 116]⟩ []]
theorem fl7_raw : fl7 = filesR rs7 := rfl
set_option maxRecDepth 1000000 in
set_option maxHeartbeats 6400000 in
theorem files7_any (w : World) :
  Calls Tryz.prog 85 #[] w fun e w' => ∃ v, e = .returned v ∧ FsRow w'.heap.size w' v fl7 ∧ Below w.heap.size w w' := by
 go_enter Tryz.func85, Tryz.ntmps85
 go_wp2_with fail
 refine (file7_any ⟨#[73]⟩ ⟨#[79, 98, 106, 101, 99, 116]⟩ _).mono ?_
 rintro e w1 ⟨p4, q4, rfl, hf, hb1⟩
 have F4 := Lib.hid hf
 have B1 := Lib.hid hb1
 clear hf hb1
 go_upto_region 2 with fail
 go_cut [1] (fun v wx => ∃ y, v = .pointer (some ⟨y, 0, none⟩) ∧ wx.heap[y]? = some (.cells #[.slice (some ⟨p4, 0, none⟩) 4 q4, .int .i64 3, .int .i64 2, .int .i64 4, .slice none 0 0, .slice none 0 0, .slice none 0 0] 94 (0, 0)) ∧ Below w1.heap.size w1 wx)
 case first =>
  go_wp2
  go_meet
  case rel => exact ⟨_, rfl, by first | exact hheap_new _ _ | (rw [heap_set_eq (hheap_new _ _)]; rfl), by first | exact (Below.refl _ _).alloc (Nat.le_refl _) _ | exact ((Below.refl _ _).alloc (Nat.le_refl _) _).setCell (Nat.le_refl _) _⟩
 obtain ⟨y4, rfl, hy, hb⟩ := hcut
 obtain ⟨w2, hV⟩ : ∃ x, x = wc := ⟨_, rfl⟩
 subst hV
 have F42 := Lib.hid ((F4.out.next hb).flag)
 have B2 := Lib.hid (Below.hlink B1.out hb)
 have hl4 := lt_of_block hy
 have m0 := kcells_of hy 0
 have m1 := kcells_of hy 1
 have m2 := kcells_of hy 2
 have m3 := kcells_of hy 3
 have m4 := kcells_of hy 4
 have m5 := kcells_of hy 5
 have m6 := kcells_of hy 6
 simp only [List.getElem?_toArray, List.getElem?_cons_succ, List.getElem?_cons_zero] at m0 m1 m2 m3 m4 m5 m6
 clear hb hy F4 B1
 go_upto_region 3 with fail
 have T0 := (Below.refl w2.heap.size w2).drew
 refine wp_region_held_drew (S := fun V => Below w2.heap.size w2 V) (by kernel_rfl) T0 (fun hS0 => ?_)
 refine wpAnyH_take (i := 3) (oi := ({ dst := some 7, op := Op.load 94 (Operand.tmp 1), type := 94, pos := "law.go:47", after := #[], guard := none } : Oper)) (v := ?av1) rfl (by kernel_rfl) (by kernel_rfl) (by kernel_rfl) (fun _ _ _ h => h) (Or.inl ⟨by rfl, ?ay1⟩) T0 ?_
 case ay1 => (intro V hSw; have c0 := (hSw.cell (p := ⟨y4, 0, none⟩) hl4).trans m0; have c1 := (hSw.cell (p := ⟨y4, 1, none⟩) hl4).trans m1; have c2 := (hSw.cell (p := ⟨y4, 2, none⟩) hl4).trans m2; have c3 := (hSw.cell (p := ⟨y4, 3, none⟩) hl4).trans m3; have c4 := (hSw.cell (p := ⟨y4, 4, none⟩) hl4).trans m4; have c5 := (hSw.cell (p := ⟨y4, 5, none⟩) hl4).trans m5; have c6 := (hSw.cell (p := ⟨y4, 6, none⟩) hl4).trans m6; go_simp; try with_reducible rfl)
 try simp only [pu0, puN, pu1, pu2, pu3]
 refine wpAnyH_ready (rs := [0]) (by kernel_rfl) (by simp) ?_
 refine (AllReadyH.cons (o := _) rfl (fun K hK => ?_) AllReadyH.nil)
 go_simp
 refine (file7_any ⟨#[65]⟩ ⟨#[79, 98, 106, 101, 99, 116]⟩ _).mono ?_
 rintro e P2 ⟨p1, q1, rfl, hf1, hb2⟩
 have F1 := Lib.hid hf1
 have T2 := T0.trans (hb2.mono T0.size)
 replace F42 := Lib.hid (F42.out.next T2)
 clear hf1
 try go_wp2_with fail
 refine hK.out _ _ T2 (fun hS2 => ?_)
 clear hK K
 try simp only [pu0, puN, pu1, pu2, pu3]
 refine wpAnyH_ready (rs := [1]) (by kernel_rfl) (by simp) ?_
 refine (AllReadyH.cons (o := _) rfl (fun K hK => ?_) AllReadyH.nil)
 go_simp
 refine (file7_any ⟨#[66]⟩ ⟨#[65]⟩ _).mono ?_
 rintro e P3 ⟨p2, q2, rfl, hf2, hb3⟩
 have F2 := Lib.hid hf2
 replace F1 := Lib.hid (F1.out.next hb3)
 have T3 := T2.trans (hb3.mono T2.size)
 replace F42 := Lib.hid (F42.out.next hb3)
 clear hf2
 try go_wp2_with fail
 refine hK.out _ _ T3 (fun hS3 => ?_)
 clear hK K
 try simp only [pu0, puN, pu1, pu2, pu3]
 refine wpAnyH_ready (rs := [2]) (by kernel_rfl) (by simp) ?_
 refine (AllReadyH.cons (o := _) rfl (fun K hK => ?_) AllReadyH.nil)
 go_simp
 refine (file7_any ⟨#[67]⟩ ⟨#[65]⟩ _).mono ?_
 rintro e P4 ⟨p3, q3, rfl, hf3, hb4⟩
 have F3 := Lib.hid hf3
 replace F1 := Lib.hid (F1.out.next hb4)
 replace F2 := Lib.hid (F2.out.next hb4)
 have T4 := T3.trans (hb4.mono T3.size)
 replace F42 := Lib.hid (F42.out.next hb4)
 clear hf3
 try go_wp2_with fail
 refine hK.out _ _ T4 (fun hS4 => ?_)
 clear hK K
 try simp only [pu0, puN, pu1, pu2, pu3]
 refine wpAnyH_ready (rs := [4]) (by kernel_rfl) (by simp) ?_
 refine (AllReadyH.cons (o := _) rfl (fun K hK => ?_) AllReadyH.nil)
 go_simp
 have hr := lit_row (w := P4) fl7 [.agg #[.slice (some ⟨p1, 0, none⟩) 4 q1, .int .i64 0, .int .i64 2, .int .i64 4, .slice none 0 0, .slice none 0 0, .slice none 0 0], .agg #[.slice (some ⟨p2, 0, none⟩) 4 q2, .int .i64 0, .int .i64 2, .int .i64 4, .slice none 0 0, .slice none 0 0, .slice none 0 0], .agg #[.slice (some ⟨p3, 0, none⟩) 4 q3, .int .i64 0, .int .i64 2, .int .i64 4, .slice none 0 0, .slice none 0 0, .slice none 0 0], .agg #[.slice (some ⟨p4, 0, none⟩) 4 q4, .int .i64 3, .int .i64 2, .int .i64 4, .slice none 0 0, .slice none 0 0, .slice none 0 0]] rfl (fun i f x hi hx => by
  match i with
  | 0 => cases hi; cases hx; exact F1.out
  | 1 => cases hi; cases hx; exact F2.out
  | 2 => cases hi; cases hx; exact F3.out
  | 3 => cases hi; cases hx; exact F42.out
  | i + 4 => cases hi) (by decide)
 have T5 := T4.alloc T4.size (.cells #[.slice (some ⟨p1, 0, none⟩) 4 q1, .int .i64 0, .int .i64 2, .int .i64 4, .slice none 0 0, .slice none 0 0, .slice none 0 0, .slice (some ⟨p2, 0, none⟩) 4 q2, .int .i64 0, .int .i64 2, .int .i64 4, .slice none 0 0, .slice none 0 0, .slice none 0 0, .slice (some ⟨p3, 0, none⟩) 4 q3, .int .i64 0, .int .i64 2, .int .i64 4, .slice none 0 0, .slice none 0 0, .slice none 0 0, .slice (some ⟨p4, 0, none⟩) 4 q4, .int .i64 3, .int .i64 2, .int .i64 4, .slice none 0 0, .slice none 0 0, .slice none 0 0] 94)
 try go_wp2_with fail
 refine hK.out _ _ T5 (fun hS5 => ?_)
 clear hK K
 try simp only [pu0, puN, pu1, pu2, pu3]
 refine wpAnyH_take (i := 5) (oi := ({ dst := some 0, op := Op.assign (Operand.tmp 8), type := 22, pos := "law.go:47", after := #[{ on := 4, ground := Ground.data }, { on := 2, ground := Ground.chain }, { on := 0, ground := Ground.phase }, { on := 1, ground := Ground.phase }, { on := 2, ground := Ground.phase }, { on := 3, ground := Ground.phase }, { on := 4, ground := Ground.phase }], guard := none } : Oper)) (v := ?av6) rfl (by kernel_rfl) (by kernel_rfl) (by kernel_rfl) (fun _ _ _ h => h) (Or.inl ⟨by rfl, ?ay6⟩) T5 ?_
 case ay6 => (intro V hSw; go_simp; try with_reducible rfl)
 try simp only [pu0, puN, pu1, pu2, pu3]
 refine wpAnyH_done (by kernel_rfl) ?_ _
 try go_wp2
 go_ret
 exact ⟨_, rfl, hr, Below.hlink B2.out T5⟩
/-- What is there is right, where the names are. -/
theorem hV_of {cs : List PC} (hN : ∀ c ∈ cs, nameL c.name = true) : ∀ t, hasT cs t → VT t := by
 rintro ⟨d, s⟩ ⟨h1, h2, h3⟩
 show rightT d s = true
 unfold rightT
 simp only [Bool.and_eq_true, Bool.or_eq_true, decide_eq_true_eq]
 refine ⟨h1, h2, ?_⟩
 rcases h3 with h3 | h3
 ·exact .inl h3
 ·right
  cases hx : ix cs s with
  | none => exact absurd hx h3
  | some i =>
   obtain ⟨c, hc, e⟩ := ix_some hx
   rw [← e]
   exact hN c (List.mem_of_getElem? hc)
theorem names_b : ∀ c ∈ builtP, nameL c.name = true := by decide +kernel
theorem hVb : ∀ t, hasT builtP t → VT t := hV_of names_b
def chb : List (List Nat) := ch7.take 14
theorem chains_b : chB builtP chb = true := by decide +kernel
theorem KAns.lit {k : KN} {w w' : World} {e : Ending} (h : KAns k w w' e) (kd d n : Int) (s : ByteArray) (hk : k = ⟨kd, (d, L s), n⟩) : e = .returned (.agg #[.int .i64 kd, .int .i64 d, .string s, .int .i64 n]) ∧ Below w.heap.size w w' := by
 obtain ⟨kd', d', n', s', rfl, hk', _, hb⟩ := h
 rw [hk] at hk'
 obtain ⟨rfl, ⟨rfl, rfl⟩, rfl⟩ := (KN_eq kd' d' n' kd d n s' s).1 hk'
 exact ⟨rfl, hb⟩
theorem BAns.yes {p : Prop} {w w' : World} {e : Ending} (h : BAns p w w' e) (hp : p) : e = .returned (.bool true) ∧ Below w.heap.size w w' := by
 obtain ⟨r, rfl, hr, hb⟩ := h
 rw [hr.2 hp]
 exact ⟨rfl, hb⟩
theorem BAns.no {p : Prop} {w w' : World} {e : Ending} (h : BAns p w w' e) (hp : ¬ p) : e = .returned (.bool false) ∧ Below w.heap.size w w' := by
 obtain ⟨r, rfl, hr, hb⟩ := h
 cases r with
 | false => exact ⟨rfl, hb⟩
 | true => exact absurd (hr.1 rfl) hp
theorem jb {a b c : KN} (ha : okKB builtP a = true) (hb : okKB builtP b = true) (hc : joinC builtP chb a b = c) : joinK builtP VT a b = c :=
 (joinC_eq good_built chains_b (okKB_ok hVb ha) (okKB_ok hVb hb)).trans hc
theorem New_nil {w : World} (hN : Blt w) : Calls Tryz.prog 18 #[.slice none 0 0] w fun e w' => (∃ nb mb A cap cl sl S, e = .returned (.tuple #[.pointer (some ⟨nb, 0, none⟩), .int .i64 0, .int .i64 0]) ∧ HT w'.heap.size nb mb A cap builtP.length builtP cl sl S w') ∧ Below w.heap.size w w' := by
 refine (New_any hN (Bf := w.heap.size) [] (.slice none 0 0) ⟨[], rfl, by simp, Row.nil⟩ (Nat.le_refl _) (fun f h => by cases h)).mono ?_
 rintro e w' ⟨ha, hb⟩
 refine ⟨?_, hb⟩
 have ho : openP builtP (fcs [] 0) = .inl builtP := by decide +kernel
 rcases ha with ⟨x, a, h, _⟩ | ⟨ds, nb, mb, A, cap, cl, sl, S, h, he, ht⟩
 ·rw [ho] at h
  cases h
 ·rw [ho] at h
  injection h with h
  subst h
  exact ⟨nb, mb, A, cap, cl, sl, S, he, ht⟩
theorem jb0 : joinK builtP VT (⟨2, (0, L ⟨#[]⟩), 0⟩ : KN) (⟨3, (0, L ⟨#[83, 116, 114, 105, 110, 103]⟩), 0⟩ : KN) = (⟨3, (0, L ⟨#[83, 116, 114, 105, 110, 103]⟩), 0⟩ : KN) := jb (by decide +kernel) (by decide +kernel) (by decide +kernel)
theorem jb1 : joinK builtP VT (⟨3, (0, L ⟨#[78, 117, 108, 108]⟩), 0⟩ : KN) (⟨3, (0, L ⟨#[65, 114, 105, 116, 104]⟩), 0⟩ : KN) = (⟨3, (0, L ⟨#[84, 104, 114, 111, 119, 97, 98, 108, 101]⟩), 0⟩ : KN) := jb (by decide +kernel) (by decide +kernel) (by decide +kernel)
theorem jb2 : joinK builtP VT (⟨1, (0, L ⟨#[]⟩), 0⟩ : KN) (⟨2, (0, L ⟨#[]⟩), 0⟩ : KN) = (⟨0, (0, L ⟨#[]⟩), 0⟩ : KN) := jb (by decide +kernel) (by decide +kernel) (by decide +kernel)
theorem jb3 : joinK builtP VT (⟨4, (0, L ⟨#[]⟩), 3⟩ : KN) (⟨4, (0, L ⟨#[]⟩), 3⟩ : KN) = (⟨4, (0, L ⟨#[]⟩), 3⟩ : KN) := jb (by decide +kernel) (by decide +kernel) (by decide +kernel)
theorem jb4 : joinK builtP VT (⟨4, (0, L ⟨#[]⟩), 3⟩ : KN) (⟨4, (0, L ⟨#[]⟩), 4⟩ : KN) = (⟨0, (0, L ⟨#[]⟩), 0⟩ : KN) := jb (by decide +kernel) (by decide +kernel) (by decide +kernel)
theorem bb0 : BelowK builtP VT (⟨2, (0, L ⟨#[]⟩), 0⟩ : KN) (⟨3, (0, L ⟨#[83, 116, 114, 105, 110, 103]⟩), 0⟩ : KN) := ⟨(okKB_ok hVb (by decide +kernel)).1, (okKB_ok hVb (by decide +kernel)).1, .inr (.inr (.inl ⟨rfl, rfl⟩))⟩
theorem bb1 : BelowK builtP VT (⟨3, (0, L ⟨#[78, 117, 108, 108]⟩), 0⟩ : KN) (⟨3, (0, L ⟨#[79, 98, 106, 101, 99, 116]⟩), 0⟩ : KN) := ⟨(okKB_ok hVb (by decide +kernel)).1, (okKB_ok hVb (by decide +kernel)).1, .inr (.inr (.inr ⟨rfl, rfl, sub_obj good_built (hasB_iff.1 (by decide +kernel)) (by decide +kernel)⟩))⟩
theorem bb2 : BelowK builtP VT (⟨1, (0, L ⟨#[]⟩), 0⟩ : KN) (⟨0, (0, L ⟨#[]⟩), 0⟩ : KN) := ⟨(okKB_ok hVb (by decide +kernel)).1, (okKB_ok hVb (by decide +kernel)).1, .inr (.inl rfl)⟩
theorem bb3 : ¬ BelowK builtP VT (⟨4, (0, L ⟨#[]⟩), 3⟩ : KN) (⟨3, (0, L ⟨#[79, 98, 106, 101, 99, 116]⟩), 0⟩ : KN) := by
 rintro ⟨_, _, h⟩
 rcases h with h | h | ⟨h, _⟩ | ⟨h, _⟩
 ·exact absurd h (by decide +kernel)
 ·exact absurd h (by decide +kernel)
 ·exact absurd h (by decide)
 ·exact absurd h (by decide)
end Go.Proofs.YtmaknddlgppinaaGreatDoor
namespace Go.Proofs.YtmaknddlgppinaaGreatDoor
open Classical
/-- The names right above a class. -/
def upR (c : PC) : List (List UInt8) := c.ifaces ++ if c.super = [] then [] else [c.super]
/-- All names above classes are classes' names. -/
structure Lkd (cs : List PC) : Prop where
 named : ix cs [] = none
 up : ∀ (i : Nat) (c : PC), cs[i]? = some c → ∀ nm ∈ upR c, ∃ j, ix cs nm = some j
theorem lkd_of {cs : List PC} (h0 : ∀ c ∈ cs, c.name ≠ []) (hk : ∀ (i : Nat) (c : PC), cs[i]? = some c → kindE cs c = 0 ∨ (c.super = [] ∧ c.ifaces = [])) : Lkd cs := by
 refine ⟨ix_none.2 h0, fun i c hc nm hm => ?_⟩
 rcases hk i c hc with h | ⟨h1, h2⟩
 ·obtain ⟨h1, h2, _⟩ := kindE_zero h
  unfold upR at hm
  rcases List.mem_append.1 hm with hm | hm
  ·exact h2 nm hm
  ·split at hm
   ·cases hm
   ·obtain rfl := List.mem_singleton.1 hm
    exact h1
 ·unfold upR at hm
  rw [h2, if_pos h1] at hm
  cases hm
theorem up_upR {cs : List PC} (h : Lkd cs) {i j : Nat} : Up cs i j ↔ ∃ c nm, cs[i]? = some c ∧ nm ∈ upR c ∧ ix cs nm = some j := by
 constructor
 ·rintro ⟨c, hc, h1 | ⟨nm, hm, h1⟩⟩
  ·refine ⟨c, c.super, hc, ?_, h1⟩
   unfold upR
   have : c.super ≠ [] := fun e => by rw [e, h.named] at h1; cases h1
   rw [if_neg this]
   simp
  ·exact ⟨c, nm, hc, by unfold upR; exact List.mem_append_left _ hm, h1⟩
 ·rintro ⟨c, nm, hc, hm, h1⟩
  refine ⟨c, hc, ?_⟩
  unfold upR at hm
  rcases List.mem_append.1 hm with hm | hm
  ·exact .inr ⟨nm, hm, h1⟩
  ·split at hm
   ·cases hm
   ·obtain rfl := List.mem_singleton.1 hm
    exact .inl h1
/-- Numbers below n, all different: no more than n. -/
theorem nodup_lt : ∀ (n : Nat) (l : List Nat), l.Nodup → (∀ x ∈ l, x < n) → l.length ≤ n
 | 0, l, _, h => by
  cases l with
  | nil => simp
  | cons x l => exact absurd (h x (by simp)) (by omega)
 | n + 1, l, hd, h => by
  by_cases hm : n ∈ l
  ·have := nodup_lt n (l.erase n) (hd.erase n) fun x hx => by
    have h1 := h x (List.mem_of_mem_erase hx)
    have : x ≠ n := fun e => by subst e; exact (List.Nodup.not_mem_erase hd) hx
    omega
   rw [List.length_erase_of_mem hm] at this
   omega
  ·have := nodup_lt n l hd fun x hx => by
    have h1 := h x hx
    have : x ≠ n := fun e => hm (e ▸ hx)
    omega
   omega
/-- The names that were seen above a, a among them. -/
structure RSeen (cs : List PC) (i0 : Nat) (a : List UInt8) (l : List (List UInt8)) : Prop where
 nodup : l.Nodup
 mem : a ∈ l
 come : ∀ x ∈ l, x = a ∨ ∃ j, ix cs x = some j ∧ Abv cs i0 j
section
variable {cs : List PC} {i0 : Nat} {a b : List UInt8} {l : List (List UInt8)}
theorem RSeen.begin : RSeen cs i0 a [a] := ⟨by simp, by simp, fun x hx => .inl (List.mem_singleton.1 hx)⟩
theorem RSeen.known (h : RSeen cs i0 a l) (ha : ix cs a = some i0) {x : List UInt8} (hx : x ∈ l) : ∃ j, ix cs x = some j ∧ (j = i0 ∨ Abv cs i0 j) := by
 rcases h.come x hx with rfl | ⟨j, h1, h2⟩
 ·exact ⟨i0, ha, .inl rfl⟩
 ·exact ⟨j, h1, .inr h2⟩
theorem RSeen.few (h : RSeen cs i0 a l) (ha : ix cs a = some i0) : l.length ≤ cs.length := by
 have h1 : (l.map fun x => (ix cs x).getD 0).Nodup := by
  unfold List.Nodup at *
  rw [List.pairwise_map]
  refine List.Pairwise.imp_of_mem ?_ h.nodup
  intro x y hx hy hne e
  apply hne
  obtain ⟨i, hi, _⟩ := h.known ha hx
  obtain ⟨j, hj, _⟩ := h.known ha hy
  simp only [hi, hj, Option.getD_some] at e
  subst e
  obtain ⟨c, hc, e1⟩ := ix_some hi
  obtain ⟨d, hd, e2⟩ := ix_some hj
  rw [hc] at hd
  cases hd
  rw [← e1, ← e2]
 have := nodup_lt cs.length _ h1 fun x hx => by
  obtain ⟨y, hy, rfl⟩ := List.mem_map.1 hx
  obtain ⟨i, hi, _⟩ := h.known ha hy
  rw [hi]
  exact ix_lt hi
 simpa using this
/-- A name right above one that was seen is seen too, or found. -/
theorem RSeen.up (hL : Lkd cs) (h : RSeen cs i0 a l) (ha : ix cs a = some i0) {x u : List UInt8} {m : Nat} {c : PC} (hx : x ∈ l) (hm : ix cs x = some m) (hc : cs[m]? = some c) (hu : u ∈ upR c) : ∃ j, ix cs u = some j ∧ Abv cs i0 j := by
 obtain ⟨j, hj⟩ := hL.up m c hc u hu
 have hup : Up cs m j := (up_upR hL).2 ⟨c, u, hc, hu, hj⟩
 refine ⟨j, hj, ?_⟩
 obtain ⟨k, hk, h1⟩ := h.known ha hx
 rw [hm] at hk
 cases hk
 rcases h1 with rfl | h1
 ·exact .one hup
 ·exact h1.trans (.one hup)
theorem RSeen.snoc (hL : Lkd cs) (h : RSeen cs i0 a l) (ha : ix cs a = some i0) {x u : List UInt8} {m : Nat} {c : PC} (hx : x ∈ l) (hm : ix cs x = some m) (hc : cs[m]? = some c) (hu : u ∈ upR c) (hn : u ∉ l) : RSeen cs i0 a (l ++ [u]) := by
 refine ⟨?_, List.mem_append_left _ h.mem, fun y hy => ?_⟩
 ·rw [List.nodup_append]
  exact ⟨h.nodup, by simp, fun y hy z hz e => by obtain rfl := List.mem_singleton.1 hz; exact hn (e ▸ hy)⟩
 ·rcases List.mem_append.1 hy with hy | hy
  ·exact h.come y hy
  ·obtain rfl := List.mem_singleton.1 hy
   exact .inr (h.up hL ha hx hm hc hu)
/-- What stands above the first k that were seen is seen, and b isn't among it. -/
def RWent (cs : List PC) (b : List UInt8) (l : List (List UInt8)) (k : Nat) : Prop :=
 ∀ (i : Nat) (x : List UInt8) (m : Nat) (c : PC), i < k → l[i]? = some x → ix cs x = some m → cs[m]? = some c → ∀ u ∈ upR c, u ∈ l ∧ u ≠ b
theorem RWent.zero : RWent cs b l 0 := fun i _ _ _ h => by omega
theorem RWent.snoc {k : Nat} (h : RWent cs b l k) (hk : k ≤ l.length) (u : List UInt8) : RWent cs b (l ++ [u]) k := fun i x m c hi hx hm hc v hv => by
 rw [List.getElem?_append_left (by omega)] at hx
 have := h i x m c hi hx hm hc v hv
 exact ⟨List.mem_append_left _ this.1, this.2⟩
theorem RWent.next {k : Nat} (h : RWent cs b l k) {x : List UInt8} {m : Nat} {c : PC} (hx : l[k]? = some x) (hm : ix cs x = some m) (hc : cs[m]? = some c) (hu : ∀ u ∈ upR c, u ∈ l ∧ u ≠ b) : RWent cs b l (k + 1) := fun i y n d hi hy hn hd => by
 by_cases e : i = k
 ·subst e
  rw [hx] at hy
  cases hy
  rw [hm] at hn
  cases hn
  rw [hc] at hd
  cases hd
  exact hu
 ·exact h i y n d (by omega) hy hn hd
/-- All was seen: b isn't above a. -/
theorem RWent.not (hL : Lkd cs) (h : RSeen cs i0 a l) (ha : ix cs a = some i0) (hw : RWent cs b l l.length) {j : Nat} (hb : ix cs b = some j) : ¬ Abv cs i0 j := by
 have key : ∀ i k, Abv cs i k → ∀ x ∈ l, ix cs x = some i → ∀ nm, ix cs nm = some k → nm ≠ b := by
  intro i k hik
  induction hik with
  | @one i k hup =>
   intro x hx hxi nm hnm
   obtain ⟨c, u, hc, hu, huk⟩ := (up_upR hL).1 hup
   obtain ⟨n, hn⟩ := List.getElem?_of_mem hx
   have := hw n x i c (List.getElem?_eq_some_iff.1 hn).1 hn hxi hc u hu
   obtain ⟨c1, h1, e1⟩ := ix_some hnm
   obtain ⟨c2, h2, e2⟩ := ix_some huk
   rw [h1] at h2
   cases h2
   rw [← e1, e2]
   exact this.2
  | @more i m k hup _ ih =>
   intro x hx hxi nm hnm
   obtain ⟨c, u, hc, hu, huk⟩ := (up_upR hL).1 hup
   obtain ⟨n, hn⟩ := List.getElem?_of_mem hx
   have := hw n x i c (List.getElem?_eq_some_iff.1 hn).1 hn hxi hc u hu
   exact ih u this.1 huk nm hnm
 exact fun h1 => key i0 j h1 a h.mem ha b hb rfl
end
end Go.Proofs.YtmaknddlgppinaaGreatDoor
