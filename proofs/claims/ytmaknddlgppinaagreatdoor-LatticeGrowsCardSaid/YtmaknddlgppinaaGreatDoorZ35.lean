/-
  CUT and joined from the texts of this seat: Rc
-/
import Derived.Test.YtmaknddlgppinaaGreatDoorZ33
import Derived.Deep.QuietTactic
import Derived.Deep.AppendSrc
set_option linter.unusedVariables false
set_option linter.unusedSimpArgs false
namespace Go.Proofs.YtmaknddlgppinaaGreatDoor
open Go.RowKit
/-- The world w, some draws later. -/
def RDrawn (w wr : World) : Prop := ∃ n, wr = w.drewN n
theorem RDrawn.refl (w : World) : RDrawn w w := ⟨0, rfl⟩
theorem RDrawn.step {w wr : World} (h : RDrawn w wr) (n : Nat) : RDrawn w (wr.drewN n) := by
 obtain ⟨m, rfl⟩ := h
 exact ⟨m + n, by rw [World.drewN_drewN]⟩
theorem RDrawn.size {w wr : World} (h : RDrawn w wr) : wr.heap.size = w.heap.size := by
 obtain ⟨m, rfl⟩ := h
 rfl
theorem RDrawn.below {w wr : World} (h : RDrawn w wr) : Below w.heap.size w wr := by
 obtain ⟨m, rfl⟩ := h
 exact ⟨rfl, rfl, rfl, Nat.le_refl _, fun _ _ => rfl⟩
/-- What a row of texts holds, for an append. -/
theorem src_strs {B : Nat} {w : World} {a : Option Addr} {n ca : Nat} {ns : List (List UInt8)} (h : SRow B w (.slice a n ca) ns) :
  ∃ ss : List ByteArray, ss.map (fun s => s.data.toList) = ns ∧ (∀ s ∈ ss, s.size ≤ 1000000) ∧ ss.length = n ∧ ((a = none ∧ ss = []) ∨ ∃ ad, a = some ad ∧ ∀ (j : Nat) (u : Value), (scells ss)[j]? = some u → w.cell? (ad.add j) = some u) := by
 obtain ⟨ss, h1, h2, A, cap, e, _, _, hl, hc⟩ := h
 injection e with e1 e2 e3
 subst e1
 refine ⟨ss, h1, h2, e2.symm, ?_⟩
 by_cases h0 : 0 < ss.length
 ·obtain ⟨b, o, rfl, hb, hcell⟩ := hc h0
  exact .inr ⟨_, rfl, fun j u hu => by rw [plain_add]; exact hcell j u hu⟩
 ·have hs : ss = [] := List.eq_nil_of_length_eq_zero (by omega)
  subst hs
  cases a with
  | none => exact .inl ⟨rfl, rfl⟩
  | some ad => exact .inr ⟨ad, rfl, fun j u hu => by simp [scells] at hu⟩
/-- Nothing behind a row of nothing. -/
theorem wpList_append_nil {ops : Array Oper} {rest : List Oper} {o : Oper} {a : Act} {Q : Exit → Act → World → Prop} {w : World} (hgd : o.guard = none) (s x : Operand)
  (ho : o.op = .call { callee := .builtin .append, args := #[s, x], argTypes := #[45, 45] }) {g n c : Nat} (hs : a.eval s = .slice (some ⟨g, 0, none⟩) n n) (hx : a.eval x = .slice none 0 c)
  (hK : wpList Tryz.prog ops Q rest (a.put o.dst (.slice (some ⟨g, 0, none⟩) n n)) w) : wpList Tryz.prog ops Q (o :: rest) a w := by
 refine wpList_plain hgd fun K hK' => ?_
 obtain ⟨i0, hi0, hz0, hz1, hz2⟩ := info9
 have hr := run_append_room_src (P := Tryz.prog) w 45 45 o.type 9 i0 und45c hi0 g 0 n n (.slice none 0 c) 0 [] (Src.ofNil w und45c c) (by omega) (fun j hj => by simp at hj) (fun j hj => by simp at hj)
 unfold Oper.wp execOp
 simp only [ho, resolve, invoke, builtin, Sem.run_bind, Sem.run_pure, Result.andThen_ok, List.map_toArray, List.map_cons, List.map_nil, hs, hx, hr]
 exact hK' _ _ hK
theorem scells_len (ss : List ByteArray) : (scells ss).length = ss.length := by simp [scells]
theorem scells_one (ss : List ByteArray) : ∀ u ∈ scells ss, u.oneCell' = true := fun u hu => by
 obtain ⟨x, _, rfl⟩ := List.mem_map.1 hu
 rfl
/-- One of a row's texts. -/
theorem OwnS.at_ {w : World} {base k : Nat} {A : Option Addr} {n c : Nat} {ns : List (List UInt8)} {x : List UInt8} (h : OwnS w base (.slice A n c) ns) (hk : ns[k]? = some x) :
  ∃ b s, A = some ⟨b, 0, none⟩ ∧ b < w.heap.size ∧ w.cell? ⟨b, k, none⟩ = some (.string s) ∧ s.data.toList = x ∧ s.size ≤ 1000000 := by
 obtain ⟨ss, rfl, hz, h3⟩ := h
 rw [List.getElem?_map] at hk
 cases hs : ss[k]? with
 | none => rw [hs] at hk; cases hk
 | some s =>
  rw [hs] at hk
  cases hk
  have hlt := (List.getElem?_eq_some_iff.1 hs).1
  have h4 := h3
  rcases h3.2 with ⟨e, e2⟩ | ⟨g, cap, cur, e, h5⟩
  ·have := h3.1
   rw [e2, scells_len] at this
   omega
  ·cases e
   refine ⟨g, s, rfl, (h4.lt g rfl).2, ?_, rfl, hz s (List.mem_of_getElem? hs)⟩
   have := h4.cells (g := g) rfl k (.string s) (by simp [scells, hs])
   rw [plain_add, Nat.zero_add] at this
   exact this
/-- The rows that Above works with. -/
structure Abo (cs : List PC) (i0 : Nat) (a b : List UInt8) (base : Nat) (k : Nat) (l : List (List UInt8)) (v : Value) (w wx : World) : Prop where
 own : OwnS wx base v l
 seen : RSeen cs i0 a l
 went : RWent cs b l k
 hk : k ≤ l.length
 bel : Below base w wx
section
variable {B p ow cap : Nat} {A : Option Addr} {cs : List PC} {w : World}
set_option maxRecDepth 1000000 in
set_option maxHeartbeats 12800000 in
theorem RAbove_any (h : RT B p A cap cs ow w) (hL : Lkd cs) (s t : ByteArray) (hs : s.size ≤ 1000000) (ht : t.size ≤ 1000000) {i0 : Nat} (ha : ix cs s.data.toList = some i0) :
  Calls Tryz.prog 76 #[.pointer (some ⟨p, 0, none⟩), .string s, .string t] w fun e w' => (∃ r : Bool, e = .returned (.bool r) ∧ (r = true ↔ ∃ j, ix cs t.data.toList = some j ∧ Abv cs i0 j)) ∧ Below w.heap.size w w' := by
 have FX := Lib.hid (fun W (hb : Below w.heap.size w W) x hx => RFind_any (h.link hb) x hx)
 have HL := Lib.hid hL
 have HA := Lib.hid ha
 have hfew := h.few
 obtain ⟨i9, hi9, hz0, hz1, hz2⟩ := info9
 obtain ⟨nb, hnb⟩ : ∃ x, x = t.data.toList := ⟨_, rfl⟩
 obtain ⟨na, hna⟩ : ∃ x, x = s.data.toList := ⟨_, rfl⟩
 rw [← hnb]
 rw [← hna] at HA
 have HNB := Lib.hid hnb
 have HNA := Lib.hid hna
 clear h hL ha hnb hna
 go_enter Tryz.func76, Tryz.ntmps76
 go_upto_region 1 with fail
 go_cut [7] (fun v wx => Abo cs i0 na nb w.heap.size 0 [na] v w wx)
 case first =>
  go_wp2
  go_meet
  case rel =>
   refine ⟨⟨[s], by simp [HNA.out], by simpa using hs, ?_⟩, RSeen.begin, RWent.zero, by simp, (Below.refl _ _).alloc (Nat.le_refl _) _⟩
   exact hown_new (hheap_new w _) (Nat.le_refl _) rfl (by unfold maxLen; omega)
 obtain ⟨V, hV⟩ : ∃ x, x = wc := ⟨_, rfl⟩
 subst hV
 have A0 := Lib.hid hcut
 clear hcut
 go_wp2
 go_loopg [7, 8] cs.length (fun g v7 v8 wx => ∃ (k : Nat) (l : List (List UInt8)), v8 = .int .i64 k ∧ Abo cs i0 na nb w.heap.size k l v7 w wx ∧ k + g = cs.length)
 case atStart => exact ⟨0, [na], rfl, A0.out, by omega⟩
 case round =>
  obtain ⟨k, l, rfl, hab, hg⟩ := hrel
  have hll := hab.seen.few HA.out
  obtain ⟨al, cl, rfl⟩ := hab.own.form
  have AB := Lib.hid hab
  have HK := Lib.hid hab.hk
  obtain ⟨n, hn⟩ : ∃ n, l.length = n := ⟨_, rfl⟩
  rw [hn] at hll ⊢
  have HNN := Lib.hid hn
  clear hab hn A0
  by_cases hlt : k < n
  ·obtain ⟨x, hx⟩ : ∃ x, l[k]? = some x := ⟨_, List.getElem?_eq_getElem (by rw [HNN.out]; exact hlt)⟩
   have ho := AB.out.own
   rw [HNN.out] at ho
   obtain ⟨bl, sx, rfl, hbl, cx, hsx, hzx⟩ := ho.at_ hx
   have HX := Lib.hid hx
   have HSX := Lib.hid hsx
   have HWS := AB.out.bel.size
   clear hx hsx ho
   go_upto_region 5 with fail
   go_cut [9] (fun v9 wx => ∃ (q : Nat), v9 = .pointer (some ⟨q, 0, none⟩) ∧ RBoxAt cs ow x q true wx ∧ Below wr.heap.size wr wx)
   case first =>
    go_wp2_with fail
    refine (FX.out _ AB.out.bel sx hzx).mono ?_
    rintro e w1 ⟨hfa, hb⟩
    rw [HSX.out] at hfa
    have B1 := Lib.hid hb
    rcases hfa with ⟨h1, _⟩ | ⟨i, d, kc, ifn, h1, h2, h3, h4, rfl⟩
    ·obtain ⟨j, hj, _⟩ := AB.out.seen.known HA.out (List.mem_of_getElem? HX.out)
     rw [hj] at h1
     cases h1
    ·obtain ⟨a4, c4, rfl, _⟩ := h4.length
     have H1 := Lib.hid h1
     have H2 := Lib.hid h2
     have H3 := Lib.hid h3
     have H4 := Lib.hid h4
     clear h1 h2 h3 h4 hb
     go_wp2
     go_meet
     case rel => exact ⟨_, rfl, RBoxAt.new2 H1.out H2.out H3.out H4.out, B1.out.alloc B1.out.size _⟩
   obtain ⟨q, rfl, hbox, hb1⟩ := hcut
   obtain ⟨V1, hV1⟩ : ∃ x, x = wc := ⟨_, rfl⟩
   subst hV1
   rcases hbox with ⟨h0, _⟩ | ⟨_, i, d, kc, a4, c4, h1, h2, h3, h4, hq⟩
   ·cases h0
   have B1 := Lib.hid hb1
   have H1 := Lib.hid h1
   have H2 := Lib.hid h2
   have H3 := Lib.hid h3
   have hqq := kcells_of hq
   have q1 := hqq 1
   have q2 := hqq 2
   simp only [List.getElem?_toArray, List.getElem?_cons_succ, List.getElem?_cons_zero] at q1 q2
   have HQ := Lib.hid hq
   have hqlt := lt_of_block hq
   obtain ⟨ss, hss, hsz, hsl, hsrc⟩ := src_strs h4
   have HSS := Lib.hid hss
   have HSZ := Lib.hid hsz
   have hfw : d.ifaces.length ≤ 1000 := h3.few
   have hsup : kc.super.data.toList = d.super := h3.sp
   have HSUP := Lib.hid hsup
   have hsupz := h3.ssz
   obtain ⟨sp, hsp⟩ : ∃ x, x = kc.super := ⟨_, rfl⟩
   rw [← hsp] at q1 hsupz HSUP
   obtain ⟨m, hm⟩ : ∃ m, d.ifaces.length = m := ⟨_, rfl⟩
   rw [hm] at q2 hfw hsl
   clear h1 h2 h3 h4 hb1 hq hqq hss hsz hsup hsp
   have HMM := Lib.hid hm
   clear hm
   go_upto_region 6 with fail
   go_cut [11] (fun v11 wx => OwnS wx V1.heap.size v11 d.ifaces ∧ Below V1.heap.size V1 wx)
   case first =>
    rcases hsrc with ⟨rfl, rfl⟩ | ⟨ad, rfl, hcell⟩
    ·have hm0 : m = 0 := by simpa using hsl.symm
     subst hm0
     have HD : d.ifaces = [] := List.eq_nil_of_length_eq_zero HMM.out
     have HDD := Lib.hid HD
     clear HD hsl
     go_wp2_with (at_builtin; refine wpList_append_nil rfl (.tmp 32) (.tmp 34) rfl rfl rfl ?_)
     go_meet
     case rel => exact ⟨by rw [HDD.out]; exact ⟨[], rfl, by simp, hown_new (cs := []) (hheap_new V1 _) (Nat.le_refl _) rfl (by unfold maxLen; omega)⟩, (Below.refl _ _).alloc (Nat.le_refl _) _⟩
    ·have HC := Lib.hid hcell
     have APART := Lib.hid (fun (ad : Addr) (ss : List Value) (h : ∀ (j : Nat) (u : Value), ss[j]? = some u → V1.cell? (ad.add j) = some u) (j : Nat) (u : Value) (hu : ss[j]? = some u) => Lib.cell?_alloc_some (.cells #[] 9) (h j u hu))
     have HSL := Lib.hid hsl
     clear hcell hsl
     go_wp2_with (at_builtin; refine hwpList_append_own2 rfl (.tmp 32) (.tmp 34) 45 rfl V1.heap.size 9 i9 (.string ⟨#[]⟩) 1 16 und45c hi9 hz0 hz1 hz2 rfl (by decide) (.slice (some ⟨V1.heap.size, 0, none⟩) 0 0) 0 [] rfl (hown_new (cs := []) (hheap_new V1 _) (Nat.le_refl _) rfl (by unfold maxLen; omega)) ad m c4 (scells ss) rfl (by rw [scells_len, HSL.out, Nat.mul_one]) (fun j u hu => APART.out ad _ (fun j u hu => HC.out j u hu) j u hu) (scells_one ss) (by unfold maxLen; omega) (by omega) (by simp) ?_; intro v3 w3 own3 hg3 hm3; obtain ⟨a3, c3, rfl⟩ := hown_form own3; have OW3 := Lib.hid own3; have HG3 := Lib.hid hg3; clear own3 hg3 hm3)
     go_meet
     case rel =>
      refine ⟨⟨ss, HSS.out, HSZ.out, ?_⟩, Below.grown ((Below.refl _ _).alloc (Nat.le_refl _) _) HG3.out (by simp) (fun q hq => hown_block_ge (hown_new (base := V1.heap.size) (e := 9) (size := 1) (n := 0) (cs := []) (hheap_new V1 _) (Nat.le_refl _) rfl (by unfold maxLen; omega)) q hq)⟩
      have := OW3.out
      rw [HSL.out]
      simpa using this
   obtain ⟨hup, hb2⟩ := hcut
   obtain ⟨V2, hV2⟩ : ∃ x, x = wc := ⟨_, rfl⟩
   subst hV2
   obtain ⟨au, cu, rfl⟩ := hup.form
   rw [HMM.out] at hup ⊢
   have UP := Lib.hid hup
   have B2 := Lib.hid hb2
   have q1' := (hb2.cell (p := ⟨q, 1, none⟩) hqlt).trans q1
   clear hup hb2 q1 q2
   go_upto_if 38 with (fail)
   go_cut [11] (fun v11 wx => OwnS wx V1.heap.size v11 (upR d) ∧ Below V1.heap.size V1 wx)
   case first =>
    by_cases hs0 : sp.toList = []
    ·have e1 : (sp.toList == []) = true := by simpa using hs0
     have e2 : (sp.toList != []) = false := by simpa using hs0
     have e4 : (!sp.toList.isEmpty) = false := by simpa using hs0
     rw [e4]
     have HS0 := Lib.hid hs0
     clear hs0
     go_wp2
     go_meet
     case rel =>
      have hsd : d.super = [] := by rw [← HSUP.out, ← Lib.toList_data, HS0.out]
      have hu : upR d = d.ifaces := by unfold upR; rw [if_pos hsd, List.append_nil]
      have := UP.out
      refine ⟨by rw [hu]; exact this, B2.out⟩
    ·have e1 : (sp.toList == []) = false := by simpa using hs0
     have e2 : (sp.toList != []) = true := by simpa using hs0
     have e4 : (!sp.toList.isEmpty) = true := by simpa using hs0
     rw [e4]
     have HS0 := Lib.hid hs0
     obtain ⟨su, hsu1, hsu2, hsu3⟩ := UP.out
     have hsul : su.length = m := by rw [← HMM.out, ← hsu1, List.length_map]
     rw [hsul] at hsu3
     have SU := Lib.hid (And.intro hsu1 (And.intro hsu2 hsul))
     have SO := Lib.hid hsu3
     clear hs0 hsu1 hsu2 hsu3 hsul
     go_wp2_with (at_builtin; refine hwpList_append_own2 rfl (.tmp 39) (.tmp 42) 45 rfl V1.heap.size 9 i9 (.string ⟨#[]⟩) 1 16 und45c hi9 hz0 hz1 hz2 rfl (by decide) (.slice au m cu) m _ rfl (World.ownsRow.alloc SO.out _) ⟨_, 0, none⟩ 1 1 [.string sp] rfl rfl (knew_at _ [.string sp] 9 _ (by simp)) (fun u hu => by simp at hu; subst hu; rfl) (by unfold maxLen; omega) (by omega) (by have := B2.out.size; simp; omega) ?_; intro v3 w3 own3 hg3 hm3; obtain ⟨a3, c3, rfl⟩ := hown_form own3; have OW3 := Lib.hid own3; have HG3 := Lib.hid hg3; clear own3 hg3 hm3)
     go_meet
     case rel =>
      have hsd : d.super ≠ [] := by rw [← HSUP.out, ← Lib.toList_data]; exact HS0.out
      have hu : upR d = d.ifaces ++ [d.super] := by unfold upR; rw [if_neg hsd]
      obtain ⟨hsu1, hsu2, hsul⟩ := SU.out
      refine ⟨?_, Below.grown (B2.out.alloc B2.out.size _) HG3.out (by have := B2.out.size; simp; omega) (fun q hq => hown_block_ge SO.out q hq)⟩
      rw [hu]
      exact OwnS.snoc (wr := V2) (v := .slice au m cu) hsu1 hsu2 HSUP.out hsupz (by rw [hsul]; exact OW3.out)
   obtain ⟨hup, hb3⟩ := hcut
   obtain ⟨V3, hV3⟩ : ∃ x, x = wc := ⟨_, rfl⟩
   subst hV3
   obtain ⟨au3, cu3, rfl⟩ := hup.form
   obtain ⟨N, hN⟩ : ∃ N, (upR d).length = N := ⟨_, rfl⟩
   rw [hN] at hup ⊢
   have UP3 := Lib.hid hup
   have B3 := Lib.hid hb3
   have HNU := Lib.hid hN
   have hN2 : N ≤ 1001 := by
    rw [← hN]
    unfold upR
    rw [List.length_append, HMM.out]
    split <;> simp <;> omega
   have BW3 := Lib.hid (AB.out.bel.trans ((B1.out.trans (hb3.mono B1.out.size)).mono AB.out.bel.size))
   have SO3 := Lib.hid (show OwnS V3 w.heap.size (.slice (some ⟨bl, 0, none⟩) n cl) l by
    have := AB.out.own
    rw [HNN.out] at this
    exact (this.below B1.out).below hb3)
   have SP3 := Lib.hid (show HSep (.slice (some ⟨bl, 0, none⟩) n cl) (.slice au3 N cu3) by
    intro g hg hg'
    obtain ⟨su, _, _, h3⟩ := hup
    have h4 := hown_block_ge h3 g hg'
    have h5 := AB.out.own
    rw [HNN.out] at h5
    obtain ⟨sv, _, _, h6⟩ := h5
    have h7 := (h6.lt g hg).2
    have := B1.out.size
    omega)
   clear hup hb3 hN q1'
   obtain ⟨W0, hW0⟩ : ∃ x, x = wr := ⟨_, rfl⟩
   subst hW0
   obtain ⟨G0, hG0⟩ : ∃ x, x = gk := ⟨_, rfl⟩
   subst hG0
   go_wp2
   go_loopg [7, 12] N (fun g v7 v12 wx => ∃ (mm : Nat) (l' : List (List UInt8)), v12 = .int .i64 mm ∧ OwnS wx w.heap.size v7 l' ∧ RSeen cs i0 na l' ∧ RWent cs nb l' k ∧ l'[k]? = some x ∧ (∀ (j : Nat) (u : List UInt8), j < mm → (upR d)[j]? = some u → u ∈ l' ∧ u ≠ nb) ∧ OwnS wx V1.heap.size (.slice au3 N cu3) (upR d) ∧ HSep v7 (.slice au3 N cu3) ∧ Below w.heap.size w wx ∧ mm + g = N)
   case atStart => exact ⟨0, l, rfl, SO3.out, AB.out.seen, AB.out.went, HX.out, fun _ _ h => by omega, UP3.out, SP3.out, BW3.out, by omega⟩
   case round =>
    obtain ⟨mm, l', rfl, ho, hse, hwe, hxl, hdone, hou, hsep, hbw, hmg⟩ := hrel
    have hll2 := hse.few HA.out
    obtain ⟨al2, cl2, rfl⟩ := ho.form
    obtain ⟨n2, hn2⟩ : ∃ n, l'.length = n := ⟨_, rfl⟩
    rw [hn2] at hll2 ho hsep ⊢
    have HN2 := Lib.hid hn2
    have HSE := Lib.hid hse
    have HWE := Lib.hid hwe
    have HXL := Lib.hid hxl
    have HDN := Lib.hid hdone
    have HSP := Lib.hid hsep
    have HO := Lib.hid ho
    have HOU := Lib.hid hou
    have HBW := Lib.hid hbw
    clear ho hse hwe hxl hdone hou hsep hbw hn2
    by_cases hlm : mm < N
    ·obtain ⟨u, hu⟩ : ∃ u, (upR d)[mm]? = some u := ⟨_, List.getElem?_eq_getElem (by rw [HNU.out]; exact hlm)⟩
     obtain ⟨bu, su, rfl, hbu, cu, hsu, hzu⟩ := HOU.out.at_ hu
     have HU := Lib.hid hu
     have HSU := Lib.hid hsu
     have HSU2 := Lib.hid (show su.toList = u by rw [Lib.toList_data, hsu])
     have HNB2 := Lib.hid (show t.toList = nb by rw [Lib.toList_data, HNB.out])
     clear hu hsu
     by_cases he : u = nb
     ·have e1 : (su.toList == t.toList) = true := by rw [HSU2.out, HNB2.out, he]; simp
      have HE := Lib.hid he
      clear he
      go_wp2
      go_ret
      refine ⟨⟨true, rfl, fun _ => ?_, fun _ => rfl⟩, HBW.out⟩
      have h := HSE.out.up HL.out HA.out (List.mem_of_getElem? HXL.out) H1.out H2.out (List.mem_of_getElem? HU.out)
      rw [HE.out] at h
      exact h
     ·have e1 : (su.toList == t.toList) = false := by rw [HSU2.out, HNB2.out]; simpa using he
      have HE := Lib.hid he
      clear he
      obtain ⟨W1, hW1⟩ : ∃ x, x = wr := ⟨_, rfl⟩
      subst hW1
      obtain ⟨G1, hG1⟩ : ∃ x, x = gk := ⟨_, rfl⟩
      subst hG1
      go_wp2
      go_loopw [13, 14] (fun v13 v14 wx => ∃ j : Nat, j ≤ n2 ∧ v14 = .int .i64 j ∧ v13 = .bool (decide (u ∈ l'.take j)) ∧ RDrawn W1 wx) (fun _ v14 _ => n2 - (intOf v14).toNat)
      case atStart => exact ⟨0, Nat.zero_le _, rfl, by simp, RDrawn.refl _⟩
      case round =>
       obtain ⟨j, hj, rfl, rfl, hd⟩ := hrel
       have HD := Lib.hid hd
       have HDS := Lib.hid hd.size
       have hdb := hd.below
       by_cases hlj : j < n2
       ·obtain ⟨y, hy⟩ : ∃ y, l'[j]? = some y := ⟨_, List.getElem?_eq_getElem (by rw [HN2.out]; exact hlj)⟩
        obtain ⟨by_, sy, rfl, hby, cy, hsy, hzy⟩ := HO.out.at_ hy
        have c1 := (hdb.cell (p := ⟨by_, j, none⟩) hby).trans cy
        have c2 := (hdb.cell (p := ⟨bu, mm, none⟩) hbu).trans cu
        have HSY := Lib.hid (show sy.toList = y by rw [Lib.toList_data, hsy])
        have hnx : (decide (u ∈ l'.take (j + 1))) = (decide (u ∈ l'.take j) || decide (y = u)) := by
         rw [List.take_add_one, hy]
         simp [List.mem_append, eq_comm]
        have HNX := Lib.hid hnx
        have hbyw : by_ < wr.heap.size := by rw [HDS.out]; exact hby
        have hbuw : bu < wr.heap.size := by rw [HDS.out]; exact hbu
        clear hd hy hsy hdb cy cu hnx
        by_cases hin : u ∈ l'.take j
        ·have e3 : decide (u ∈ l'.take j) = true := decide_eq_true hin
         have HE3 := Lib.hid e3
         rw [e3]
         clear hin e3
         go_wp2
         go_quiet (fail)
         go_wp2
         go_roundw
         case rel => exact ⟨j + 1, by omega, by go_num, by rw [HNX.out, HE3.out]; rfl, HD.out.step _⟩
         case measure => simp [intOf]; omega
        ·have e3 : decide (u ∈ l'.take j) = false := decide_eq_false hin
         have HE3 := Lib.hid e3
         rw [e3]
         clear hin e3
         obtain ⟨qb, hqb⟩ : ∃ qb : Bool, (sy.toList == su.toList) = qb := ⟨_, rfl⟩
         have HQB := Lib.hid (show decide (y = u) = qb by rw [← hqb, HSY.out, HSU2.out, Bool.eq_iff_iff, decide_eq_true_iff, beq_iff_eq])
         go_wp2
         go_quiet (fail)
         go_wp2
         go_roundw
         case rel => exact ⟨j + 1, by omega, by go_num, by rw [HNX.out, HE3.out, HQB.out]; simp, HD.out.step _⟩
         case measure => simp [intOf]; omega
       ·have hjn : j = n2 := by omega
        subst hjn
        have htk : l'.take j = l' := by rw [← HN2.out, List.take_length]
        rw [htk]
        have BWd := Lib.hid (HBW.out.trans (hdb.mono HBW.out.size))
        have HOd := Lib.hid (HO.out.below hdb)
        have HUd := Lib.hid (HOU.out.below hdb)
        have c2 := (hdb.cell (p := ⟨bu, mm, none⟩) hbu).trans cu
        clear hd hdb htk cu
        by_cases hin : u ∈ l'
        ·have e3 : decide (u ∈ l') = true := decide_eq_true hin
         have HIN := Lib.hid hin
         rw [e3]
         clear hin e3
         go_wp2
         go_roundg (G1 - 1)
         case measure => omega
         case rel =>
          refine ⟨mm + 1, l', by go_num, HOd.out, HSE.out, HWE.out, HXL.out, fun i v hi hv => ?_, HUd.out, HSP.out, BWd.out, by omega⟩
          by_cases him : i = mm
          ·subst him
           rw [HU.out] at hv
           cases hv
           exact ⟨HIN.out, HE.out⟩
          ·exact HDN.out i v (by omega) hv
        ·have e3 : decide (u ∈ l') = false := decide_eq_false hin
         have HIN := Lib.hid hin
         rw [e3]
         have hse2 := Lib.hid (HSE.out.snoc HL.out HA.out (List.mem_of_getElem? HXL.out) H1.out H2.out (List.mem_of_getElem? HU.out) hin)
         have hll3 := hse2.out.few HA.out
         rw [List.length_append, HN2.out, List.length_singleton] at hll3
         obtain ⟨sv, hsv1, hsv2, hsv3⟩ := HOd.out
         have hsvl : sv.length = j := by rw [← HN2.out, ← hsv1, List.length_map]
         rw [hsvl] at hsv3
         have SV := Lib.hid (And.intro hsv1 (And.intro hsv2 hsvl))
         have SVO := Lib.hid hsv3
         have hBsz := BWd.out.size
         clear hin e3 hsv1 hsv2 hsv3 hsvl
         go_wp2_with (at_builtin; refine hwpList_append_own2 rfl (.tmp 76) (.tmp 81) 45 rfl w.heap.size 9 i9 (.string ⟨#[]⟩) 1 16 und45c hi9 hz0 hz1 hz2 rfl (by decide) (.slice al2 j cl2) j _ rfl (World.ownsRow.alloc SVO.out _) ⟨_, 0, none⟩ 1 1 [.string su] rfl rfl (knew_at _ [.string su] 9 _ (by simp)) (fun u hu => by simp at hu; subst hu; rfl) (by unfold maxLen; omega) (by omega) (by simp; omega) ?_; intro v3 w3 own3 hg3 hm3; obtain ⟨a3, c3, rfl⟩ := hown_form own3; have OW3 := Lib.hid own3; have HG3 := Lib.hid hg3; have HM3 := Lib.hid hm3; clear own3 hg3 hm3)
         go_roundg (G1 - 1)
         case measure => omega
         case rel =>
          obtain ⟨sv1, sv2, svl⟩ := SV.out
          obtain ⟨sw, sw1, sw2, sw3⟩ := HUd.out
          refine ⟨mm + 1, l' ++ [u], by go_num, OwnS.snoc (wr := wr) (v := .slice al2 j cl2) sv1 sv2 HSU.out hzu (by rw [svl]; exact OW3.out), hse2.out, HWE.out.snoc (by have := (List.getElem?_eq_some_iff.1 HXL.out).1; omega) u, by rw [List.getElem?_append_left (List.getElem?_eq_some_iff.1 HXL.out).1]; exact HXL.out, fun i v hi hv => ?_, ⟨sw, sw1, sw2, hown_grown_other (World.ownsRow.alloc sw3 _) HSP.out HG3.out⟩, HSep.moved HSP.out HM3.out (World.ownsRow.alloc sw3 _), Below.grown (BWd.out.alloc hBsz _) HG3.out (by simp; omega) (fun q hq => hown_block_ge SVO.out q hq), by omega⟩
          by_cases him : i = mm
          ·subst him
           rw [HU.out] at hv
           cases hv
           exact ⟨by simp, HE.out⟩
          ·have := HDN.out i v (by omega) hv
           exact ⟨List.mem_append_left _ this.1, this.2⟩
    ·have hmN : mm = N := by omega
     subst hmN
     go_wp2
     go_roundg (G0 - 1)
     case measure => omega
     case rel =>
      refine ⟨k + 1, l', by go_num, ⟨HO.out, HSE.out, HWE.out.next HXL.out H1.out H2.out (fun u hu => ?_), (List.getElem?_eq_some_iff.1 HXL.out).1, HBW.out⟩, by omega⟩
      obtain ⟨j, hj⟩ := List.getElem?_of_mem hu
      exact HDN.out j u (by have := (List.getElem?_eq_some_iff.1 hj).1; rw [HNU.out] at this; exact this) hj
  ·have hkn : k = n := by have := HK.out; rw [HNN.out] at this; omega
   have HKN := Lib.hid hkn
   clear hkn
   go_wp2
   go_ret
   refine ⟨⟨false, rfl, ⟨(fun h => by cases h), (fun ⟨j, hj, hab⟩ => ?_)⟩⟩, AB.out.bel⟩
   have hw := AB.out.went
   rw [HKN.out, ← HNN.out] at hw
   exact absurd hab (RWent.not HL.out AB.out.seen HA.out hw hj)
end
end Go.Proofs.YtmaknddlgppinaaGreatDoor
