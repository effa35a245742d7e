/-
  CUT and joined from the texts of this seat: Ig Ik Il Ja
-/
import Derived.Test.YtmaknddlgppinaaGreatDoorX21
import Derived.Test.YtmaknddlgppinaaGreatDoorX05
import Derived.Deep.MidRow
import Derived.IntWalk
set_option linter.unusedVariables false
set_option linter.unusedSimpArgs false
/-! Ig -/
namespace Go.Proofs.YtmaknddlgppinaaGreatDoor
open Go.RowKit

/-- What the listed variable holds: the names of the built-in classes, and of those above them. -/
def blC (c : PC) : List Value := [.string ⟨c.name.toArray⟩, .string ⟨c.super.toArray⟩]
def blV : List Value := builtP.flatMap blC
def Blt (w : World) : Prop := ∀ (k : Nat) (v : Value), blV[k]? = some v → w.cell? ⟨0, k, none⟩ = some v
theorem Blt.lt {w : World} (h : Blt w) : 0 < w.heap.size := by
  have := h 0 _ rfl
  apply Classical.byContradiction
  intro hn
  have h0 : w.heap.size = 0 := by omega
  have : w.heap[0]? = none := by simp [h0]
  simp [World.cell?, this] at *
theorem Blt.below {w w' : World} (h : Blt w) (hb : Below w.heap.size w w') : Blt w' := fun k v hv => (hb.cell (p := ⟨0, k, none⟩) h.lt).trans (h k v hv)
theorem Blt.range {w : World} (h : Blt w) : w.rangeAt 0 0 blV := by
  intro j v hv
  rw [Nat.zero_add]
  exact h j v hv
theorem bl_info : (Tryz.prog.info? 149).map (·.size) = some blV.length := by kernel_rfl
theorem und149 : Tryz.prog.underlying 149 = some (.array 14 148) := by kernel_rfl
theorem bl_load {ops : Array Oper} {rest : List Oper} {op : Oper} {a : Act} {w : World} {Q : Exit → Act → World → Prop} (hgd : op.guard = none) (ho : op.op = .load 149 (.global 0)) (hx : a.eval (.global 0) = .pointer (some ⟨0, 0, none⟩)) (hN : Blt w)
    (h : wpList Tryz.prog ops Q rest (a.put op.dst (.agg blV.toArray)) w) : wpList Tryz.prog ops Q (op :: rest) a w :=
  wpList_load_mid hgd 149 _ ho 0 0 hx blV (.array 14 148) hN.range und149 rfl bl_info h
theorem bl_idx (w : World) : ∀ k : Nat, k < 14 → (Instr.index 149 (.agg blV.toArray) (.int .i64 (k : Int))).run Tryz.prog w = .ok (.agg #[.string ⟨(builtP[k]?.getD ⟨[], [], [], false, false, 0⟩).name.toArray⟩, .string ⟨(builtP[k]?.getD ⟨[], [], [], false, false, 0⟩).super.toArray⟩]) w
  | 0, _ => by kernel_rfl
  | 1, _ => by kernel_rfl
  | 2, _ => by kernel_rfl
  | 3, _ => by kernel_rfl
  | 4, _ => by kernel_rfl
  | 5, _ => by kernel_rfl
  | 6, _ => by kernel_rfl
  | 7, _ => by kernel_rfl
  | 8, _ => by kernel_rfl
  | 9, _ => by kernel_rfl
  | 10, _ => by kernel_rfl
  | 11, _ => by kernel_rfl
  | 12, _ => by kernel_rfl
  | 13, _ => by kernel_rfl
  | k + 14, h => absurd h (by omega)
/-- The table of the built-in classes that is being made: j of them stand. -/
structure BI (base nb mb j : Nat) (cl : Nat → Nat) (w : World) : Prop where
  at_ : AT base nb mb 0 (builtP.take j) cl w
  low : ∀ i, i < j → base ≤ cl i
  inj : ∀ i i', i < j → i' < j → cl i = cl i' → i = i'
  cls : ∀ i c, i < j → builtP[i]? = some c → ∃ k, KAt (cl i) k w ∧ k.place = i ∧ Nmd k c ∧ k.ifn = .slice none 0 0 ∧ k.above = .slice none 0 0 ∧ k.ifs = .slice none 0 0 ∧ k.up = ptrV cl (sup builtP i)
theorem BI.below {base nb mb j : Nat} {cl : Nat → Nat} {w w' : World} (h : BI base nb mb j cl w) (hb : Below w.heap.size w w') : BI base nb mb j cl w' :=
  ⟨h.at_.below hb, h.low, h.inj, fun i c hi hc => by
    obtain ⟨k, k1, k2⟩ := h.cls i c hi hc
    exact ⟨k, (hb.block _ (lt_of_block k1)).trans k1, k2⟩⟩
theorem BI.drewN {base nb mb j : Nat} {cl : Nat → Nat} {w : World} (h : BI base nb mb j cl w) (m : Nat) : BI base nb mb j cl (w.drewN m) := ⟨h.at_.drewN m, h.low, h.inj, h.cls⟩
theorem bl_all : ∀ c ∈ builtP, c.name.length ≤ 100 ∧ c.super.length ≤ 100 ∧ c.ifaces = [] ∧ c.iface = false ∧ c.abs = false ∧ c.at_ = -1 := by decide
theorem bl_sup : ∀ j : Fin 14, ∀ c, builtP[j.1]? = some c → ix (builtP.take j.1) c.super = ix builtP c.super := by
  have h : ∀ j : Fin 14, ix (builtP.take j.1) (builtP[j.1]'(by have := j.2; simp [builtP])).super = ix builtP (builtP[j.1]'(by have := j.2; simp [builtP])).super := by decide
  intro j c hc
  obtain ⟨_, rfl⟩ := List.getElem?_eq_some_iff.1 hc
  exact h j
theorem bl_ssz {j : Nat} {c : PC} (hc : builtP[j]? = some c) : (⟨c.super.toArray⟩ : ByteArray).size ≤ maxLen := by
  obtain ⟨_, b2, _⟩ := bl_all c (List.mem_of_getElem? hc)
  show c.super.toArray.size ≤ maxLen
  unfold maxLen
  simp
  omega
theorem bl_new {j : Nat} {c : PC} (hc : builtP[j]? = some c) : ix (builtP.take j) c.name = none := by
  rw [ix_none]
  intro d hd e
  obtain ⟨i, hi, rfl⟩ := List.getElem_of_mem hd
  have hi' : i < j ∧ i < builtP.length := by have := hi; rw [List.length_take] at this; omega
  have h1 : builtP[i]? = some ((builtP.take j)[i]) := by rw [List.getElem_take]; exact List.getElem?_eq_getElem hi'.2
  have := good_built.apart i j _ c h1 hc e
  omega
/-- One built-in class more. -/
theorem BI.add {base nb mb j : Nat} {cl : Nat → Nat} {W : World} (h : BI base nb mb j cl W) (hj : j < 14) {c : PC} (hc : builtP[j]? = some c) {p : Option Addr} (hp : ptrV cl (ix (builtP.take j) c.super) = .pointer p) :
    Calls Tryz.prog 100 #[.pointer (some ⟨nb, 0, none⟩), .pointer (some ⟨W.heap.size, 0, none⟩)] (W.alloc (.cells #[.string ⟨c.name.toArray⟩, .string ⟨c.super.toArray⟩, .slice none 0 0, .bool false, .bool false, .bool false, .int .i64 (-1), .int .i64 0, .pointer p, .slice none 0 0, .slice none 0 0] 116)) fun e w' =>
      e = .returned (.bool true) ∧ BI base nb mb (j + 1) (put2 cl j W.heap.size) w' ∧ Below base W w' ∧ (∀ (q : Nat) (cs : Array Value), q < W.heap.size → W.heap[q]? = some (.cells cs 148 (0, 0)) → w'.heap[q]? = some (.cells cs 148 (0, 0))) ∧ ptrV (put2 cl j W.heap.size) (ix (builtP.take (j + 1)) c.super) = .pointer p := by
  obtain ⟨k, hkk⟩ : ∃ k : KC, k = ⟨⟨c.name.toArray⟩, ⟨c.super.toArray⟩, .slice none 0 0, false, false, false, -1, 0, .pointer p, .slice none 0 0, .slice none 0 0⟩ := ⟨_, rfl⟩
  obtain ⟨b1, b2, b3, b4, b5, b6⟩ := bl_all c (List.mem_of_getElem? hc)
  have hk : KAt W.heap.size k (W.alloc (.cells #[.string ⟨c.name.toArray⟩, .string ⟨c.super.toArray⟩, .slice none 0 0, .bool false, .bool false, .bool false, .int .i64 (-1), .int .i64 0, .pointer p, .slice none 0 0, .slice none 0 0] 116)) := by
    rw [hkk]
    exact hheap_new W _
  have hbl := h.at_.blt
  have hnl := h.at_.nlt
  have hlen : (builtP.take j).length = j := by rw [List.length_take]; have : builtP.length = 14 := rfl; omega
  have hs1 : k.name.size ≤ 1000000 := by rw [hkk]; show c.name.toArray.size ≤ _; simp; omega
  have hsuc : builtP.take (j + 1) = builtP.take j ++ [c] := by rw [List.take_add_one, hc]; rfl
  refine (add_any (h.at_.below ((Below.refl _ _).alloc (Nat.le_refl _) _)) hk hbl (by omega) c (by rw [hkk]) hs1 (by omega)).mono ?_
  rintro e w' (⟨h1, _⟩ | ⟨h1, rfl, h2, h3, h4, h5⟩)
  · exact absurd (bl_new hc) h1
  · rw [hlen] at h2 h3
    have hold : ∀ i, i < j → cl i < W.heap.size := fun i hi => by
      obtain ⟨c', hc'⟩ : ∃ c', builtP[i]? = some c' := ⟨_, List.getElem?_eq_getElem (by have : builtP.length = 14 := rfl; omega)⟩
      obtain ⟨ki, k1, _⟩ := h.cls i c' hi hc'
      exact lt_of_block k1
    have hbe : Below base W w' := ((Below.refl _ _).alloc hbl _).trans h5
    have hup : ∀ i, i ≤ j → ptrV (put2 cl j W.heap.size) (sup builtP i) = ptrV cl (sup builtP i) := fun i hi => by
      cases hsu : sup builtP i with
      | none => rfl
      | some q =>
        have := up_built (sup_up hsu)
        simp only [ptrV]
        rw [put2_ne _ _ (by omega)]
    refine ⟨rfl, ⟨by rw [hsuc]; exact h2, fun i hi => ?_, fun i i' hi hi' e => ?_, fun i d hi hd => ?_⟩, hbe, fun q cs' hq hqq => ?_, ?_⟩
    · by_cases e : i = j
      · subst e; rw [put2_self]; exact hbl
      · rw [put2_ne _ _ e]; exact h.low i (by omega)
    · by_cases e1 : i = j <;> by_cases e2 : i' = j
      · omega
      · subst e1
        rw [put2_self, put2_ne _ _ e2] at e
        have := hold i' (by omega)
        omega
      · subst e2
        rw [put2_self, put2_ne _ _ e1] at e
        have := hold i (by omega)
        omega
      · rw [put2_ne _ _ e1, put2_ne _ _ e2] at e
        exact h.inj i i' (by omega) (by omega) e
    · by_cases e1 : i = j
      · subst e1
        rw [hc] at hd
        cases hd
        refine ⟨k.at i, by rw [put2_self]; exact h3, rfl, ⟨by rw [hkk]; rfl, hs1, by rw [hkk]; rfl, by rw [hkk]; show c.super.toArray.size ≤ _; simp; omega, by rw [hkk, b4]; rfl, by rw [hkk, b5]; rfl, by rw [hkk, b6]; rfl, by rw [b3]; simp⟩, by rw [hkk]; rfl, by rw [hkk]; rfl, by rw [hkk]; rfl, ?_⟩
        rw [hup i (Nat.le_refl _), sup_at hc, ← bl_sup ⟨i, hj⟩ c hc, hp, hkk]
        rfl
      · obtain ⟨ki, k1, k2, k3, k4, k5, k6, k7⟩ := h.cls i d (by omega) hd
        have hlt := hold i (by omega)
        obtain ⟨v, t0, _⟩ := h.at_.t0
        refine ⟨ki, ?_, k2, k3, k4, k5, k6, by rw [k7, hup i (by omega)]⟩
        rw [put2_ne _ _ e1]
        exact h4.kat (by decide) (fun e => kat_table k1 t0 e.symm) (by omega) (hheap_alloc_lt k1)
    · obtain ⟨v, t0, _⟩ := h.at_.t0
      refine h4.block q cs' 148 (0, 0) (by decide) (fun e => ?_) (by omega) (hheap_alloc_lt hqq)
      rw [e, t0] at hqq
      cases hqq
    · rw [← hp, hsuc]
      cases hx : ix (builtP.take j) c.super with
      | some q =>
        rw [ix_app hx]
        have := ix_lt hx
        simp only [ptrV]
        rw [put2_ne _ _ (by omega)]
      | none =>
        have h1 := bl_sup ⟨j, hj⟩ c hc
        simp only at h1
        rw [hx] at h1
        have h2 : ix (builtP.take j ++ [c]) c.super = none := by
          rw [← hsuc]
          have h3 := ix_none.1 h1.symm
          exact ix_none.2 fun d hd => h3 d (List.mem_of_mem_take hd)
        rw [h2]
        rfl
theorem BI.lnk {base nb mb : Nat} {cl : Nat → Nat} {w : World} (h : BI base nb mb 14 cl w) : Lnk base 0 builtP.length builtP cl w := by
  have hl : builtP.length = 14 := rfl
  refine ⟨fun i _ hi => h.low i (by omega), fun i j _ _ hi hj e => h.inj i j (by omega) (by omega) e, fun i c _ hc => ?_⟩
  have hi := (List.getElem?_eq_some_iff.1 hc).1
  obtain ⟨k, k1, k2, k3, k4, k5, k6, k7⟩ := h.cls i c (by omega) hc
  obtain ⟨_, _, b3, _⟩ := bl_all c (List.mem_of_getElem? hc)
  refine ⟨k, k1, k2, k3, ?_, k5, fun _ => ⟨k7, ?_⟩, fun hf => absurd hf (by omega)⟩
  · rw [k4, b3]; exact OwnS.nil _ _
  · rw [k6, ifs_at hc, b3]
    exact World.ownsRow_nil _ _ _ _
theorem Fr.below {o n B : Nat} {cl : Nat → Nat} {w w' : World} (hF : Fr o n cl w w') (hB : ∀ i, o ≤ i → i < n → B ≤ cl i) (h2 : B ≤ w.heap.size) : Below B w w' :=
  ⟨hF.os, hF.tape, hF.output, hF.size, fun k hk => hF.block k (by omega) fun i h1 h2 e => by have := hB i h1 h2; omega⟩
set_option maxRecDepth 1000000 in
set_option maxHeartbeats 6400000 in
theorem builtinTable_any {w : World} (hN : Blt w) : Calls Tryz.prog 63 #[] w fun e w' => ∃ tb mb A cap cl sl S, e = .returned (.pointer (some ⟨tb, 0, none⟩)) ∧ HT w'.heap.size tb mb A cap 0 builtP cl sl S w' ∧ Below w.heap.size w w' := by
  have HN := Lib.hid hN
  have EX := Lib.hid (extended_nil (fun _ => 0) (w := w.alloc (.cells #[.slice none 0 0, .map none, .int .i64 0] 112)) (hheap_new w _))
  clear hN
  go_enter Tryz.func63, Tryz.ntmps63
  go_wp2_with fail
  refine EX.out.mono ?_
  rintro e w1 ⟨nb, mb, rfl, hat, hb⟩
  obtain ⟨base, hbase⟩ : ∃ b, b = (w.alloc (.cells #[.slice none 0 0, .map none, .int .i64 0] 112)).heap.size := ⟨_, rfl⟩
  rw [← hbase] at hat hb
  have hbz : base = w.heap.size + 1 := by rw [hbase]; simp
  have HBZ := Lib.hid (show w.heap.size ≤ base by omega)
  have hbw : Below w.heap.size w w1 := ((Below.refl _ _).alloc (Nat.le_refl _) _).trans (hb.mono (by omega))
  have HN1 := Lib.hid (HN.out.below hbw)
  have HAT := Lib.hid hat
  have HBW := Lib.hid hbw
  clear hat hb hbw hbase
  go_wp2_with (refine bl_load rfl rfl rfl HN1.out ?_)
  go_loopg [7] 14 (fun gk iv wx => ∃ (j : Nat) (cl : Nat → Nat), iv = .int .i64 j ∧ j + gk = 14 ∧ BI base nb mb j cl wx ∧ Below w.heap.size w wx)
  case atStart => exact ⟨0, fun _ => 0, rfl, by omega, ⟨HAT.out, fun i h => absurd h (by omega), fun i i' h => absurd h (by omega), fun i c h => absurd h (by omega)⟩, HBW.out⟩
  case round =>
    obtain ⟨j, cl, rfl, hjg, hbi, hbx⟩ := hrel
    have HBI := Lib.hid hbi
    have HBX := Lib.hid hbx
    have hbs := hbx.size
    by_cases hj : j < 14
    · have hgg : gk - 1 < gk := by omega
      obtain ⟨c, hcx⟩ : ∃ c, builtP[j]? = some c := ⟨_, List.getElem?_eq_getElem hj⟩
      have hix : ∀ W, (Instr.index 149 (.agg blV.toArray) (.int .i64 (j : Int))).run Tryz.prog W = .ok (.agg #[.string ⟨c.name.toArray⟩, .string ⟨c.super.toArray⟩]) W := fun W => by
        have := bl_idx W j hj
        rw [hcx] at this
        exact this
      obtain ⟨v, t0, _⟩ := hbi.at_.t0
      have c1 : wr.cell? ⟨nb, 1, none⟩ = some (.map (some mb)) := by rw [kcells_of t0]; rfl
      have HM := Lib.hid hbi.at_.map
      have hnlt := lt_of_block t0
      have HCX := Lib.hid hcx
      clear hbi hbx t0 hcx
      go_wp2
      obtain ⟨F, hF⟩ : ∃ F, F = wr.alloc (.cells #[.string ⟨c.name.toArray⟩, .string ⟨c.super.toArray⟩] 148) := ⟨_, rfl⟩
      have hfb : F.heap[wr.heap.size]? = some (.cells #[.string ⟨c.name.toArray⟩, .string ⟨c.super.toArray⟩] 148 (0, 0)) := by rw [hF]; exact hheap_new _ _
      have hfw : Below wr.heap.size wr F := by rw [hF]; exact (Below.refl _ _).alloc (Nat.le_refl _) _
      have hlk : (Instr.lookup 110 (.map (some mb)) (.string ⟨c.super.toArray⟩) false).run Tryz.prog F.drew = .ok (ptrV cl (ix (builtP.take j) c.super)) F.drew := (HM.out.same (w' := F.drew) (hfw.block _ HM.out.lt)).look ⟨c.super.toArray⟩ (bl_ssz HCX.out)
      rw [← hF]
      have f0 := kcells_of hfb 0
      have f1 := kcells_of hfb 1
      have g1 : F.cell? ⟨nb, 1, none⟩ = some (.map (some mb)) := (hfw.cell (p := ⟨nb, 1, none⟩) hnlt).trans c1
      simp only [List.getElem?_toArray, List.getElem?_cons_succ, List.getElem?_cons_zero] at f0 f1
      have HFB := Lib.hid hfb
      have HFW := Lib.hid hfw
      obtain ⟨p, hp⟩ : ∃ p, ptrV cl (ix (builtP.take j) c.super) = .pointer p := by cases ix (builtP.take j) c.super <;> exact ⟨_, rfl⟩
      rw [hp] at hlk
      have HP := Lib.hid hp
      clear hF hfb hfw hp
      have KEY := Lib.hid (show Calls Tryz.prog 100 #[.pointer (some ⟨nb, 0, none⟩), .pointer (some ⟨F.heap.size, 0, none⟩)] (F.alloc (.cells #[.string ⟨c.name.toArray⟩, .string ⟨c.super.toArray⟩, .slice none 0 0, .bool false, .bool false, .bool false, .int .i64 (-1), .int .i64 0, .pointer p, .slice none 0 0, .slice none 0 0] 116)).drew _ from BI.add (W := F.drew) (p := p) ((HBI.out.below HFW.out).drewN 1) hj HCX.out HP.out)
      have HMF := Lib.hid (show TMap mb (builtP.take j) cl F from HM.out.same (HFW.out.block _ HM.out.lt))
      have hF0 := lt_of_block HFB.out
      have hF1 : nb < F.heap.size := Nat.lt_of_lt_of_le hnlt HFW.out.size
      have hlk2 : ∀ W, TMap mb (builtP.take j) cl W → (Instr.lookup 110 (.map (some mb)) (.string ⟨c.super.toArray⟩) false).run Tryz.prog W = .ok (.pointer p) W := fun W hW => by rw [← HP.out]; exact hW.look ⟨c.super.toArray⟩ (bl_ssz HCX.out)
      have HLK := Lib.hid hlk2
      clear hlk2
      go_region_held3 (fun w' => w'.cell? ⟨wr.heap.size, 0, none⟩ = some (.string ⟨c.name.toArray⟩) ∧ w'.cell? ⟨wr.heap.size, 1, none⟩ = some (.string ⟨c.super.toArray⟩) ∧ w'.cell? ⟨nb, 1, none⟩ = some (.map (some mb)) ∧ (Instr.lookup 110 (.map (some mb)) (.string ⟨c.super.toArray⟩) false).run Tryz.prog w' = .ok (.pointer p) w')
        (first
          | exact ⟨f0, f1, g1, hlk⟩
          | exact ⟨(World.cell?_alloc_lt F _ _ hF0).trans f0, (World.cell?_alloc_lt F _ _ hF0).trans f1, (World.cell?_alloc_lt F _ _ hF1).trans g1, HLK.out _ (HMF.out.same (Below.heap_alloc _ _ _ HMF.out.lt))⟩
          | exact ⟨q0, q1, q2, q3⟩)
        ((go_at_call 100; refine KEY.out.mono ?_; rintro e w2 ⟨rfl, hb2, hbel2, hbox, hpp⟩; have HB2 := Lib.hid hb2; have HBE2 := Lib.hid hbel2; have q0 := kcells_of (hbox _ _ hF0 HFB.out) 0; have q1 := kcells_of (hbox _ _ hF0 HFB.out) 1; simp only [List.getElem?_toArray, List.getElem?_cons_succ, List.getElem?_cons_zero] at q0 q1; obtain ⟨v2, t2, _⟩ := hb2.at_.t0; have q2 : w2.cell? ⟨nb, 1, none⟩ = some (.map (some mb)) := by { rw [kcells_of t2]; rfl }; have q3 : (Instr.lookup 110 (.map (some mb)) (.string ⟨c.super.toArray⟩) false).run Tryz.prog w2 = .ok (.pointer p) w2 := by { rw [← hpp]; exact hb2.at_.map.look ⟨c.super.toArray⟩ (bl_ssz HCX.out) }; clear hb2 hbel2 hbox hpp t2))
      go_wp2
      go_roundg (gk - 1)
      case measure => exact hgg
      case rel =>
        have hz := HFW.out.size
        exact ⟨j + 1, _, by go_num, by omega, HB2.out, (HBX.out.trans (HFW.out.mono hbs)).trans (Below.trans (Below.refl _ F).drew (HBE2.out.mono HBZ.out))⟩
    · obtain rfl : j = 14 := by omega
      obtain ⟨v, t0, town⟩ := hbi.at_.t0
      obtain ⟨A', cap', rfl⟩ := hown_form town
      have hlen : (builtP.take 14).length = 14 := rfl
      have T0 := Lib.hid (show (wr.drewN 1).heap[nb]? = some (.cells #[.slice A' builtP.length cap', .map (some mb), .int .i64 ((0 : Nat) : Int)] 112 (0, 0)) from t0)
      have TC := Lib.hid (show 14 ≤ cap' by rcases town.2 with ⟨_, h⟩ | ⟨g, c2, cur, e, _, _, h, _⟩; (· cases h); (· injection e with _ _ e3; subst e3; exact h))
      have c0 : wr.cell? ⟨nb, 0, none⟩ = some (.slice A' 14 cap') := by rw [kcells_of t0]; rfl
      clear hbi hbx town t0
      go_wp2
      refine wp_region_still_tail 9 (by kernel_rfl) (by kernel_rfl) ?_
      change wpStill _ _ wr.drew _ _ _
      simp only [List.take_succ_cons, List.take_zero, List.drop_succ_cons, List.drop_zero]
      repeat still_step
      refine wpStill_nil ?_
      change wpList _ _ _ _ _ wr.drew
      go_wp2_with fail
      have hB := (HBI.out.drewN 1)
      have hat : AT base nb mb 0 builtP cl (wr.drewN 1) := hB.at_
      have hL := hB.lnk
      have hkown : ∀ i, 0 ≤ i → i < builtP.length → ∃ k, KAt (cl i) k (wr.drewN 1) := fun i h1 h2 => by
        obtain ⟨k, hk, _⟩ := hL.cls i _ h1 (List.getElem?_eq_getElem h2)
        exact ⟨k, hk⟩
      have hoc : OwnC 0 14 builtP.length cl A' (wr.drewN 1) := ownc_of hat hkown rfl T0.out (fun g hg _ => hg)
      have H0 := half_0 (sl := fun _ => 0) (S := fun _ => []) hat hL
      have hcap : 14 ≤ cap' := TC.out
      refine (show Calls Tryz.prog 81 #[.slice A' 14 cap', .int .i64 ((builtP.length : Nat) : Int)] (wr.drewN 1) _ from fillAbove_any (cs := builtP) H0 rfl rfl hcap hoc (Nat.le_refl _) (fun x j hx => dir_up hx) (fun i h => absurd h (by omega))).mono ?_
      rintro e w' ⟨rfl, sl', S', hT, hex, hF, hNm⟩
      obtain ⟨A2, cap2, HH⟩ := ht_0 hat hL hT hex hF hNm good_built
      have HHH := Lib.hid HH
      have HBB := Lib.hid (hF.below (B := w.heap.size) (fun i h1 h2 => Nat.le_trans HBZ.out (hL.low i h1 h2)) hbs)
      clear HH hT hex hF hNm H0 hoc hkown hL hat hB
      go_wp2
      go_ret
      exact ⟨nb, mb, A2, cap2, cl, sl', S', rfl, HHH.out, (show Below w.heap.size w (wr.drewN 1) from HBX.out.drew).trans HBB.out⟩
end Go.Proofs.YtmaknddlgppinaaGreatDoor
/-! Ik -/
namespace Go.Proofs.YtmaknddlgppinaaGreatDoor
open Go.RowKit

theorem fcs_named : ∀ {fs : List Fl} {i : Nat} {f : FC}, f ∈ fcs fs i → f.1 = 0 → f.2.name ≠ []
  | [], _, _, h, _ => by cases h
  | g :: fs, i, f, h, h0 => by
    rcases List.mem_cons.1 h with rfl | h
    · have h1 : (encF g).toNat = 0 := h0
      have := encF_nonneg g
      exact pcOf_name (by omega) _
    · exact fcs_named h h0
/-- What Open answers. -/
def OpenAns (cs : List PC) (fs : List Fl) (w' : World) (e : Ending) : Prop :=
  (∃ x a, openP cs (fcs fs 0) = .inr (x, a) ∧ e = .returned (.tuple #[.pointer none, .int .i64 ((x : Nat) : Int), .int .i64 ((a : Nat) : Int)])) ∨
  ∃ ds nb mb A cap cl sl S, openP cs (fcs fs 0) = .inl ds ∧ e = .returned (.tuple #[.pointer (some ⟨nb, 0, none⟩), .int .i64 0, .int .i64 0]) ∧ HT w'.heap.size nb mb A cap cs.length ds cl sl S w'
/-- The first loop: j files have been taken. -/
structure O1 (base nb mb : Nat) (cs : List PC) (cl0 : Nat → Nat) (fs : List Fl) (w : World) (j : Nat) (wx : World) : Prop where
  ex : ∃ own cl, Took2 cs fs j own ∧ AT base nb mb cs.length (cs ++ own) cl wx ∧ Lnk base cs.length 0 (cs ++ own) cl wx ∧ ∀ i, i < cs.length → cl i = cl0 i
  below : Below w.heap.size w wx
/-- The second loop: m of the own classes are linked. -/
structure O2 (base nb mb o g cap0 : Nat) (ds : List PC) (cl : Nat → Nat) (w : World) (m : Nat) (wx : World) : Prop where
  at_ : AT base nb mb o ds cl wx
  lnk : Lnk base o m ds cl wx
  t0 : wx.heap[nb]? = some (.cells #[.slice (some ⟨g, 0, none⟩) ds.length cap0, .map (some mb), .int .i64 (o : Int)] 112 (0, 0))
  err : firstE (kindE ds) (ds.drop (o + m)) m = firstE (kindE ds) (ds.drop o) 0
  below : Below base w wx
section
variable {base nb mb o g cap0 m : Nat} {ds : List PC} {cl : Nat → Nat} {w wx w' : World}
theorem AT.cell (hA : AT base nb mb o ds cl wx) (hv : wx.heap[nb]? = some (.cells #[.slice (some ⟨g, 0, none⟩) ds.length cap0, .map (some mb), .int .i64 (o : Int)] 112 (0, 0))) : wx.ownsRow base 108 1 (.slice (some ⟨g, 0, none⟩) ds.length cap0) ds.length (ptrs cl ds.length) ∧ g < wx.heap.size ∧ ∀ i, i < ds.length → wx.cell? ⟨g, i, none⟩ = some (.pointer (some ⟨cl i, 0, none⟩)) := by
  obtain ⟨v, h1, h2⟩ := hA.t0
  rw [hv] at h1
  have hvv : v = .slice (some ⟨g, 0, none⟩) ds.length cap0 := by
    have := congrArg (fun x => match x with | some (Obj.cells y _ _) => y[0]? | _ => none) h1
    simpa using this.symm
  subst hvv
  refine ⟨h2, (h2.lt g rfl).2, fun i hi => ?_⟩
  have := h2.cells (g := g) rfl i _ (ptrs_at cl hi)
  rw [plain_add, Nat.zero_add] at this
  exact this
theorem O2.next (h : O2 base nb mb o g cap0 ds cl w m wx) {c : PC} (hc : ds[o + m]? = some c) {k : KC} (hk : KAt (cl (o + m)) k wx) (hp : k.place = o + m) (hn : Nmd k c) (hrow : OwnS wx base k.ifn c.ifaces) (ha : k.above = .slice none 0 0) (hu : Upd [cl (o + m)] wx w') {v : Value} (hL : LI ds cl (cl (o + m)) k c wx c.ifaces.length v w') (h0 : kindE ds c = 0) : O2 base nb mb o g cap0 ds cl w (m + 1) w' := by
  have hlt := (List.getElem?_eq_some_iff.1 hc).1
  refine ⟨h.at_.upd hk hu, h.lnk.linked hc hk hp hn hrow ha hL h0 h.at_.blt, ?_, ?_, ?_⟩
  · exact (hu.block nb (lt_of_block h.t0) (by simpa using kat_table hk h.t0)).trans h.t0
  · have e : (ds.drop o)[m]? = some c := by rw [List.getElem?_drop]; exact hc
    rw [← h.err, show ds.drop (o + (m + 1)) = (ds.drop o).drop (m + 1) by rw [List.drop_drop], show ds.drop (o + m) = (ds.drop o).drop m by rw [List.drop_drop], firstE_next e, if_neg (by simp [h0])]
  · have hge := h.lnk.low (o + m) (by omega) hlt
    exact ⟨hu.os.trans h.below.os, hu.tape.trans h.below.tape, hu.output.trans h.below.output, Nat.le_trans h.below.size hu.size, fun q hq => (hu.block q (Nat.lt_of_lt_of_le hq h.at_.blt) (by simp; omega)).trans (h.below.block q hq)⟩
end
section
variable {B tb mb cap ow : Nat} {A : Option Addr} {cs : List PC} {cl0 sl : Nat → Nat} {S : Nat → List Nat} {w : World}
set_option maxRecDepth 1000000 in
set_option maxHeartbeats 6400000 in
theorem Open_any (h : HT B tb mb A cap ow cs cl0 sl S w) {Bf : Nat} (fs : List Fl) (v : Value) (hf : FsRow Bf w v fs) (hBf : Bf ≤ w.heap.size) (ht : ∀ f ∈ fs, Texts f.pool) (hfew : cs.length ≤ 900) :
    Calls Tryz.prog 27 #[.pointer (some ⟨tb, 0, none⟩), v] w fun e w' => OpenAns cs fs w' e ∧ Below w.heap.size w w' := by
  obtain ⟨Af, capf, rfl, hcapf, hmaxf⟩ := hf.form
  have EX := Lib.hid (extended_any h)
  have H := Lib.hid h
  have HF := Lib.hid hf
  have HTX := Lib.hid ht
  clear h hf ht
  by_cases h64 : 64 < fs.length
  · have HO := Lib.hid (show openP cs (fcs fs 0) = .inr (3, 0) by unfold openP; rw [if_pos (by rw [fcs_length]; exact h64)])
    go_enter Tryz.func27, Tryz.ntmps27
    go_wp2
    refine bodyPost_ret (v := .tuple #[.pointer none, .int .i64 3, .int .i64 0]) (by simp [results, Tryz.results27, go_sem]) rfl ?_
    exact ⟨.inl ⟨3, 0, HO.out, rfl⟩, Below.refl _ _⟩
  · go_enter Tryz.func27, Tryz.ntmps27
    go_wp2_with fail
    refine EX.out.mono ?_
    rintro e w1 ⟨nb, mb', rfl, hat, hb⟩
    have HAT := Lib.hid hat
    have HB1 := Lib.hid hb
    clear hat hb
    go_wp2
    go_loopg [23] fs.length (fun gk iv wx => ∃ j : Nat, iv = .int .i64 j ∧ j + gk = fs.length ∧ O1 w.heap.size nb mb' cs cl0 fs w j wx)
    case atStart => exact ⟨0, rfl, by omega, ⟨[], cl0, Took2.start cs fs, by rw [List.append_nil]; exact HAT.out, by rw [List.append_nil]; exact Lnk.none _ _ _ _, fun _ _ => rfl⟩, HB1.out⟩
    case round =>
      obtain ⟨j, rfl, hjg, hO⟩ := hrel
      have HO := Lib.hid hO
      have hbs := hO.below.size
      by_cases hj : j < fs.length
      · have hgg : gk - 1 < gk := by omega
        obtain ⟨own, cl, htk, hat, hlk, hcl⟩ := hO.ex
        obtain ⟨f, hfj⟩ : ∃ f, fs[j]? = some f := ⟨_, List.getElem?_eq_getElem hj⟩
        have hfr := HF.out.keep (w' := wr) (fun p hp => hO.below.cell (p := p) (by omega))
        obtain ⟨bf, of, Ap, cp, Ai, ci, Ah, ch, Am, cm, rfl, hbf, hfi, z0, z1, z2, z3, z4, z5, z6⟩ := hfr.at_ hfj
        have AD := Lib.hid (fun W (hb : Below wr.heap.size wr W) => addFile_any (base := w.heap.size) (hat.below hb) (hlk.below hb) (by simp) f _ ((hfi.at_).below (B' := wr.heap.size) hb (by omega)) hBf (HTX.out f (List.mem_of_getElem? hfj)) (j : Int) (by rw [List.length_append, htk.len]; omega))
        have HTK := Lib.hid htk
        have HAT2 := Lib.hid hat
        have HCL := Lib.hid hcl
        have HFJ := Lib.hid hfj
        have hbl := hat.blt
        clear hO hfr hfi htk hat hlk hcl hfj
        go_wp2_with fail
        refine (AD.out _ (by first | exact (Below.refl _ _).alloc (Nat.le_refl _) _)).mono ?_
        rintro e w2 (⟨h1, rfl, hb2⟩ | ⟨h1, h2, rfl, hb2⟩ | ⟨h1, h2, rfl, cb, hcb, hat2, hlk2, hb2⟩)
        · obtain ⟨E, hE⟩ : ∃ E, E = encF f := ⟨_, rfl⟩
          rw [← hE]
          have hne : (E == 0) = false := by rw [hE]; simpa using h1
          have HOP := Lib.hid (openP_add (by rw [fcs_length]; omega) (HTK.out.wrong HFJ.out h1))
          have HEE := Lib.hid hE
          have HB2 := Lib.hid hb2
          clear h1 hE hb2
          go_wp2
          refine bodyPost_ret (v := .tuple #[.pointer none, .int .i64 E, .int .i64 (j : Int)]) (by simp [results, Tryz.results27, go_sem]) rfl ?_
          refine ⟨.inl ⟨_, _, HOP.out, ?_⟩, ?_⟩
          · rw [encF_nat, ← HEE.out]
          · exact (HO.out.below.alloc hbs _).trans (HB2.out.mono (by simp; omega))
        · have HOP := Lib.hid (openP_add (by rw [fcs_length]; omega) (HTK.out.twice HFJ.out h1 h2))
          have HB2 := Lib.hid hb2
          clear h1 h2 hb2
          go_wp2
          refine bodyPost_ret (v := .tuple #[.pointer none, .int .i64 15, .int .i64 (j : Int)]) (by simp [results, Tryz.results27, go_sem]) rfl ?_
          refine ⟨.inl ⟨_, _, HOP.out, rfl⟩, ?_⟩
          exact (HO.out.below.alloc hbs _).trans (HB2.out.mono (by simp; omega))
        · have HTK2 := Lib.hid (HTK.out.next HFJ.out h1 h2)
          have HA3 := Lib.hid hat2
          have HL3 := Lib.hid hlk2
          have HB2 := Lib.hid hb2
          clear h1 h2 hat2 hlk2 hb2
          go_wp2
          go_roundg (gk - 1)
          case measure => exact hgg
          case rel =>
            refine ⟨j + 1, by go_num, by omega, ⟨own ++ [pcOf f j], put2 cl (cs ++ own).length cb, HTK2.out, by rw [← List.append_assoc]; exact HA3.out, by rw [← List.append_assoc]; exact HL3.out, fun i hi => ?_⟩, ?_⟩
            · rw [put2_ne _ _ (by rw [List.length_append]; omega)]; exact HCL.out i hi
            · exact (HO.out.below.alloc hbs _).trans HB2.out
      · obtain rfl : fs.length = j := by omega
        obtain ⟨own, cl, htk, hat, hlk, hcl⟩ := hO.ex
        obtain ⟨ds, hds⟩ : ∃ ds, ds = cs ++ own := ⟨_, rfl⟩
        rw [← hds] at hat hlk
        obtain ⟨v0, t0, town⟩ := hat.t0
        obtain ⟨A0, cap0, rfl⟩ := hown_form town
        have HDS := Lib.hid hds
        have HTK := Lib.hid htk
        have HAT2 := Lib.hid hat
        have HLK := Lib.hid hlk
        have HCL := Lib.hid hcl
        have T0 := Lib.hid t0
        have TOWN := Lib.hid town
        have hbl := hat.blt
        have hnlt := lt_of_block t0
        have c0 : wr.cell? ⟨nb, 0, none⟩ = some (.slice A0 ds.length cap0) := by rw [kcells_of t0]; rfl
        have c2 : wr.cell? ⟨nb, 2, none⟩ = some (.int .i64 (cs.length : Int)) := by rw [kcells_of t0]; rfl
        have hdl : ds.length = cs.length + fs.length := by rw [hds, List.length_append, htk.len]
        have hdc : ds.length ≤ cap0 := by
          rcases town.2 with ⟨e, h0⟩ | ⟨g, c2, cur, e, _, _, h, _⟩
          · omega
          · injection e with _ _ e3; omega
        obtain ⟨g, rfl⟩ : ∃ g, A0 = some ⟨g, 0, none⟩ := by
          rcases town.2 with ⟨e, h0⟩ | ⟨g, c2, cur, e, _⟩
          · have := H.out.good.pos
            omega
          · injection e with e1 _ _
            exact ⟨g, e1⟩
        have T0S := Lib.hid (show wr.drew.heap[nb]? = some (.cells #[.slice (some ⟨g, 0, none⟩) (cs.length + fs.length) cap0, .map (some mb'), .int .i64 (cs.length : Int)] 112 (0, 0)) by rw [← hdl]; exact t0)
        clear hO hds htk hat hlk hcl town t0
        go_wp2
        go_cut [11] (fun v wx => ∃ q, v = .slice (some ⟨g, q, none⟩) fs.length (cap0 - cs.length) ∧ (0 < fs.length → q = cs.length) ∧ wx = wr.drew)
        case first =>
          go_region
          all_goals (try go_wp2)
          all_goals (go_meet; case rel => first | exact ⟨cs.length, rfl, fun _ => rfl, rfl⟩ | exact ⟨0, by rw [show cap0 - cs.length = 0 by omega], fun hp => absurd hp (by omega), rfl⟩)
        obtain ⟨q, rfl, hq, rfl⟩ := hcut
        have HQ := Lib.hid hq
        clear hq
        go_wp2
        obtain ⟨wo, hwo⟩ : ∃ x, x = wr := ⟨_, rfl⟩
        subst hwo
        obtain ⟨g1, hg1⟩ : ∃ x, x = gk := ⟨_, rfl⟩
        subst hg1
        go_loopg [48] fs.length (fun gk iv wx => ∃ m : Nat, iv = .int .i64 m ∧ m + gk = fs.length ∧ O2 w.heap.size nb mb' cs.length g cap0 ds cl w m wx)
        case atStart => exact ⟨0, rfl, by omega, ⟨HAT2.out.drewN 1, HLK.out.drewN 1, by rw [hdl]; exact T0S.out, rfl, HO.out.below.drew⟩⟩
        case round =>
          obtain ⟨m, rfl, hmg, h2⟩ := hrel
          have H2 := Lib.hid h2
          by_cases hm : m < fs.length
          · have hgg : gk - 1 < gk := by omega
            obtain ⟨c, hc⟩ : ∃ c, ds[cs.length + m]? = some c := ⟨_, List.getElem?_eq_getElem (by omega)⟩
            obtain ⟨k, k1, k2, k3, k4, k5, _, k7⟩ := h2.lnk.cls _ c (by omega) hc
            obtain ⟨ku, ki⟩ := k7 (Nat.le_refl _)
            obtain ⟨_, hgl, hcells⟩ := h2.at_.cell h2.t0
            have r0 := hcells (cs.length + m) (by omega)
            have hh := H.out.below (h2.below.mono H.out.hB)
            have hq := HQ.out (by omega)
            subst hq
            have hall : ∀ j d, ds[j]? = some d → ∃ kj, KAt (cl j) kj wr ∧ kj.iface = d.iface := fun j d hd => by
              by_cases hjo : j < cs.length
              · have hd2 : cs[j]? = some d := by rw [HDS.out, get_app hjo] at hd; exact hd
                obtain ⟨kj, e1, e2⟩ := hh.says j d hd2
                exact ⟨kj, by rw [HCL.out j hjo]; exact e1, e2.nmd.ifc⟩
              · obtain ⟨kj, e1, _, e3, _⟩ := h2.lnk.cls j d (by omega) hd
                exact ⟨kj, e1, e3.ifc⟩
            have LK := Lib.hid (linkUp_any h2.t0 h2.at_.map k1 c k3 k4 ki k3.few hall)
            have HC := Lib.hid hc
            have K1 := Lib.hid k1
            have K2 := Lib.hid k2
            have K3 := Lib.hid k3
            have K4 := Lib.hid k4
            have K5 := Lib.hid k5
            clear h2 hc k1 k2 k3 k4 k5 k7 ku ki hcells hh hall
            go_wp2_with fail
            refine LK.out.mono ?_
            rintro e w2 ⟨rfl, hu, hli⟩
            obtain ⟨E, hE⟩ : ∃ E : Nat, E = kindE ds c := ⟨_, rfl⟩
            rw [← hE]
            have HE := Lib.hid hE
            have HU := Lib.hid hu
            have HLI := Lib.hid hli
            clear hE hu hli
            by_cases hz : E = 0
            · have HZ := Lib.hid (show kindE ds c = 0 by rw [← HE.out]; exact hz)
              subst hz
              go_wp2
              go_roundg (gk - 1)
              case measure => exact hgg
              case rel =>
                obtain ⟨u, hu⟩ := HLI.out HZ.out
                exact ⟨m + 1, by go_num, by omega, H2.out.next HC.out K1.out K2.out K3.out K4.out K5.out HU.out hu HZ.out⟩
            · have hne : (((E : Nat) : Int) == 0) = false := by simpa using hz
              have HZ := Lib.hid (show kindE ds c ≠ 0 by rw [← HE.out]; exact hz)
              clear hz
              go_wp2
              refine bodyPost_ret (v := .tuple #[.pointer none, .int .i64 ((E : Nat) : Int), .int .i64 (m : Int)]) (by simp [results, Tryz.results27, go_sem]) rfl ?_
              have hff : firstE (kindE ds) (ds.drop cs.length) 0 = some (kindE ds c, m) := by
                have e : (ds.drop cs.length)[m]? = some c := by rw [List.getElem?_drop]; exact HC.out
                rw [← H2.out.err, show ds.drop (cs.length + m) = (ds.drop cs.length).drop m by rw [List.drop_drop], firstE_next e, if_pos HZ.out]
              refine ⟨.inl ⟨_, _, openP_kind (by rw [fcs_length]; omega) (by rw [HDS.out]; exact HTK.out.ends) hff, by rw [HE.out]⟩, ?_⟩
              have hge := H2.out.lnk.low (cs.length + m) (by omega) (List.getElem?_eq_some_iff.1 HC.out).1
              have u := HU.out
              have bl := H2.out.below
              exact ⟨u.os.trans bl.os, u.tape.trans bl.tape, u.output.trans bl.output, Nat.le_trans bl.size u.size, fun q hq => (u.block q (Nat.lt_of_lt_of_le hq H2.out.at_.blt) (by simp; omega)).trans (bl.block q hq)⟩
          · obtain rfl : fs.length = m := by omega
            have hww := h2.at_.blt
            have hb2 := h2.at_
            obtain ⟨hrow, hgl, hcells⟩ := h2.at_.cell h2.t0
            have c0 : wr.cell? ⟨nb, 0, none⟩ = some (.slice (some ⟨g, 0, none⟩) ds.length cap0) := by rw [kcells_of h2.t0]; rfl
            have hh := H.out.below (h2.below.mono H.out.hB)
            have hH := half_of hh H.out.hB h2.at_ h2.lnk HDS.out HTK.out.len HTK.out.named HCL.out
            have hkown : ∀ i, cs.length ≤ i → i < ds.length → ∃ k, KAt (cl i) k wr := fun i h1 h3 => by
              obtain ⟨k, hk, _⟩ := h2.lnk.cls i _ h1 (List.getElem?_eq_getElem h3)
              exact ⟨k, hk⟩
            have hoc : OwnC cs.length fs.length ds.length cl (some ⟨g, q, none⟩) wr := ownc_of h2.at_ hkown hdl h2.t0 (fun g' hg hp => by
              rw [HQ.out hp]
              injection hg with hg
              injection hg with hg _ _
              rw [hg])
            have hexo : ∀ i, i < cs.length → i < ds.length → ∀ k, bit (S i) k = true ↔ Abv ds i k := fun i hi _ k => by
              rw [HDS.out, abv_app H.out.good HTK.out.named hi]
              exact H.out.exact i hi k
            have FA := fillAbove_any (cs := ds) hH rfl hdl.symm (show fs.length ≤ cap0 - cs.length by omega) hoc (Nat.le_refl _) (fun x j hx => dir_up hx) hexo
            rw [hdl, Int.natCast_add] at FA
            have FA2 := Lib.hid FA
            have HH := Lib.hid hh
            have H2 := Lib.hid h2
            have HOC := Lib.hid hoc
            clear h2 hb2 hrow hh hH hkown hoc hexo FA
            go_wp2_with fail
            refine FA2.out.mono ?_
            rintro e w4 ⟨rfl, sl', S', hT, hex, hF, hNm⟩
            rw [← hdl] at hT hex hF hNm
            obtain ⟨xs, hxs⟩ : ∃ xs : List Value, xs = (List.range fs.length).map fun j => .pointer (some ⟨cl (cs.length + j), 0, none⟩) := ⟨_, rfl⟩
            have hrow : Row w4.heap.size 1 w4 (.slice (some ⟨g, q, none⟩) fs.length (cap0 - cs.length)) fs.length xs := by
              refine ⟨_, _, rfl, by omega, hmaxf, by rw [hxs]; simp, fun hp => ⟨g, q, rfl, Nat.lt_of_lt_of_le hgl hF.size, fun j u hu => ?_⟩⟩
              rw [hxs] at hu
              have hj : j < fs.length := by
                have := (List.getElem?_eq_some_iff.1 hu).1
                simpa using this
              rw [List.getElem?_map, List.getElem?_range hj] at hu
              simp only [Option.map_some, Option.some.injEq] at hu
              obtain ⟨b, o', e1, _, e2⟩ := HOC.out.fr hF hj
              injection e1 with e1
              injection e1 with e3 e4 _
              rw [← hu, e3, e4]
              exact e2
            have IX := Lib.hid (indexFunc83 (g := fun j => bit (S' (cs.length + j)) (cs.length + j)) hrow (fun j x hx m => by
              rw [hxs] at hx
              have hj : j < fs.length := by
                have := (List.getElem?_eq_some_iff.1 hx).1
                simpa using this
              rw [List.getElem?_map, List.getElem?_range hj] at hx
              simp only [Option.map_some, Option.some.injEq] at hx
              have T := hT.drewN m
              obtain ⟨k, k1, k2, _, _, k5⟩ := T.cls (cs.length + j) (by omega)
              have := inCycle_any k1 k5 (T.sets (cs.length + j) (by omega)) (by rw [k2]; have := T.few; omega)
              rw [k2] at this
              rw [← hx]
              refine this.mono ?_
              rintro e w5 ⟨rfl, m', rfl⟩
              exact ⟨rfl, m + m', World.drewN_drewN _ _ _⟩))
            have HT4 := Lib.hid hT
            have HEX := Lib.hid hex
            have HF4 := Lib.hid hF
            have HNM := Lib.hid hNm
            clear hT hex hF hNm hrow hxs
            go_wp2_with fail
            refine IX.out.mono ?_
            rintro e w5 ⟨r, rfl, hr, m, rfl⟩
            have hff : firstE (kindE ds) (ds.drop cs.length) 0 = none := by
              rw [← H2.out.err, List.drop_eq_nil_of_le (by omega)]
              rfl
            have HADD := Lib.hid (show addP cs (fcs fs 0) 0 = .inl ds by rw [HDS.out]; exact HTK.out.ends)
            have HFF := Lib.hid hff
            have HBEL := Lib.hid (show Below w.heap.size w (w4.drewN m) from hbelow_drewN (H2.out.below.trans (HF4.out.below (fun i h1 h2 => H2.out.lnk.low i h1 h2) hww)) m)
            rcases hr with ⟨r', rfl, hr1, hr2, hr3⟩ | ⟨rfl, hr2⟩
            · have hab : Abv ds (cs.length + r') (cs.length + r') := (HEX.out _ (by omega) _).1 hr2
              have HRR := Lib.hid (firstR_some_of ds cs.length fs.length 0 r' (by omega) (by omega) hab (fun j _ hj ha => by
                have h1 : bit (S' (cs.length + j)) (cs.length + j) = false := hr3 j hj
                have h2 := (HEX.out (cs.length + j) (by omega) (cs.length + j)).2 ha
                rw [h2] at h1
                cases h1))
              clear hr2 hr3 hab hff
              go_wp2
              refine bodyPost_ret (v := .tuple #[.pointer none, .int .i64 16, .int .i64 ((r' : Nat) : Int)]) (by simp [results, Tryz.results27, go_sem]) rfl ?_
              exact ⟨.inl ⟨16, r', openP_round (by rw [fcs_length]; omega) HADD.out HFF.out (by rw [fcs_length]; exact HRR.out), rfl⟩, HBEL.out⟩
            · have hrr : firstR ds cs.length fs.length 0 = none := firstR_none_of ds cs.length fs.length 0 (fun j _ hj ha => by
                have h1 : bit (S' (cs.length + j)) (cs.length + j) = false := hr2 j (by omega)
                have h2 := (HEX.out (cs.length + j) (by omega) (cs.length + j)).2 ha
                rw [h2] at h1
                cases h1)
              have hop := openP_done (cs := cs) (fs := fcs fs 0) (by rw [fcs_length]; omega) HADD.out HFF.out (by rw [fcs_length]; exact hrr)
              have hgood : Good ds := (openP_good H.out.good (fun f hf hf0 => fcs_named hf hf0) hop).1
              have HOP := Lib.hid hop
              obtain ⟨A4, cap4, hht⟩ := ht_of HH.out H.out.hB H2.out.at_ H2.out.lnk HDS.out HTK.out.len HTK.out.named HCL.out HT4.out HEX.out HF4.out HNM.out hgood
              have HHT := Lib.hid hht
              clear hr2 hff hrr hop hgood hht
              go_wp2
              refine bodyPost_ret (v := .tuple #[.pointer (some ⟨nb, 0, none⟩), .int .i64 0, .int .i64 0]) (by simp [results, Tryz.results27, go_sem]) rfl ?_
              exact ⟨.inr ⟨ds, nb, mb', A4, cap4, cl, sl', S', HOP.out, rfl, HHT.out.below (hbelow_drewN (Below.refl _ _) m)⟩, HBEL.out⟩
end
end Go.Proofs.YtmaknddlgppinaaGreatDoor
/-! Il -/
namespace Go.Proofs.YtmaknddlgppinaaGreatDoor
open Go.RowKit

set_option maxRecDepth 1000000 in
set_option maxHeartbeats 6400000 in
theorem New_any {w : World} (hN : Blt w) {Bf : Nat} (fs : List Fl) (v : Value) (hf : FsRow Bf w v fs) (hBf : Bf ≤ w.heap.size) (ht : ∀ f ∈ fs, Texts f.pool) :
    Calls Tryz.prog 18 #[v] w fun e w' => OpenAns builtP fs w' e ∧ Below w.heap.size w w' := by
  obtain ⟨Af, capf, rfl, hcapf, hmaxf⟩ := hf.form
  have BT := Lib.hid (builtinTable_any hN)
  have HF := Lib.hid hf
  have HTX := Lib.hid ht
  clear hN hf ht
  go_enter Tryz.func18, Tryz.ntmps18
  go_wp2_with fail
  refine BT.out.mono ?_
  rintro e w1 ⟨tb, mb, A, cap, cl, sl, S, rfl, hT, hb⟩
  have OP := Lib.hid (Open_any hT fs _ (HF.out.keep fun p hp => hb.cell (p := p) (by omega)) (Nat.le_trans hBf hb.size) HTX.out (by decide))
  have HB := Lib.hid hb
  clear hT hb
  go_wp2_with fail
  refine OP.out.mono ?_
  rintro e w2 ⟨hans, hb2⟩
  have HB2 := Lib.hid (HB.out.trans (hb2.mono HB.out.size))
  clear hb2
  rcases hans with ⟨x, a, h1, rfl⟩ | ⟨ds, nb, mb', A', cap', cl', sl', S', h1, rfl, h2⟩
  · have H1 := Lib.hid h1
    clear h1
    go_wp2
    refine bodyPost_ret (v := .tuple #[.pointer none, .int .i64 ((x : Nat) : Int), .int .i64 ((a : Nat) : Int)]) (by simp [results, Tryz.results18, go_sem]) rfl ?_
    exact ⟨.inl ⟨x, a, H1.out, rfl⟩, HB2.out⟩
  · have H1 := Lib.hid h1
    have H2 := Lib.hid h2
    clear h1 h2
    go_wp2
    refine bodyPost_ret (v := .tuple #[.pointer (some ⟨nb, 0, none⟩), .int .i64 0, .int .i64 0]) (by simp [results, Tryz.results18, go_sem]) rfl ?_
    exact ⟨.inr ⟨ds, nb, mb', A', cap', cl', sl', S', H1.out, rfl, H2.out⟩, HB2.out⟩
end Go.Proofs.YtmaknddlgppinaaGreatDoor
/-! Ja -/
namespace Go.Proofs.YtmaknddlgppinaaGreatDoor
open Go.RowKit

/-- Which of n things the number c speaks of. -/
def pickN (c : Int) (n : Nat) : Nat := (if c < 0 then -(c + 1) else c).toNat % n
theorem pickN_lt (c : Int) {n : Nat} (h : 0 < n) : pickN c n < n := Nat.mod_lt _ h
set_option maxRecDepth 1000000 in
set_option maxHeartbeats 1600000 in
theorem pick_any (c : Int) (n : Nat) (w : World) (hc : -9223372036854775808 ≤ c ∧ c ≤ 9223372036854775807) (h0 : 0 < n) (hn : n ≤ 1048576) :
    Calls Tryz.prog 62 #[.int .i64 c, .int .i64 (n : Int)] w fun e w' => e = .returned (.int .i64 (pickN c n : Int)) ∧ w' = w := by
  have hz : ((n : Int) == 0) = false := by rw [beq_eq_false_iff_ne]; omega
  have hz' : ¬ (n : Int) = 0 := by omega
  by_cases h : c < 0
  · have e1 : pickN c n = (-(c + 1)).toNat % n := by unfold pickN; rw [if_pos h]
    rw [e1]
    have k1 : IntKind.i64.wrap (c + 1) = c + 1 := IntWalk.i64_in _ (by omega)
    have k2 : IntKind.i64.wrap (-(c + 1)) = -(c + 1) := IntWalk.i64_in _ (by omega)
    obtain ⟨m, hm⟩ : ∃ m : Nat, -(c + 1) = m := ⟨(-(c + 1)).toNat, by omega⟩
    rw [hm] at k2 ⊢
    rw [Int.toNat_natCast]
    have hm3 : (m : Int) ≤ 9223372036854775807 := by omega
    have hlt : m % n < n := Nat.mod_lt _ h0
    have k3 : IntKind.i64.wrap ((m : Int).tmod n) = ((m % n : Nat) : Int) := by
      rw [Int.tmod_eq_emod_of_nonneg (by omega), ← Int.natCast_emod, IntWalk.i64_in _ (by omega)]
    go_enter Tryz.func62, Tryz.ntmps62
    go_wp2
    go_ret
    exact ⟨by show Ending.returned (.int .i64 ((m : Int) % n)) = _; rw [Int.natCast_emod], rfl⟩
  · have e1 : pickN c n = c.toNat % n := by unfold pickN; rw [if_neg h]
    rw [e1]
    obtain ⟨m, rfl⟩ : ∃ m : Nat, c = m := ⟨c.toNat, by omega⟩
    rw [Int.toNat_natCast]
    have hlt : m % n < n := Nat.mod_lt _ h0
    have k3 : IntKind.i64.wrap ((m : Int).tmod n) = ((m % n : Nat) : Int) := by
      rw [Int.tmod_eq_emod_of_nonneg (by omega), ← Int.natCast_emod, IntWalk.i64_in _ (by omega)]
    have h9 : ¬ (m : Int) < 0 := h
    go_enter Tryz.func62, Tryz.ntmps62
    go_wp2
    go_ret
    exact ⟨rfl, rfl⟩
/-- The names that raw numbers speak of. -/
def nmB : List ByteArray := [⟨#[65]⟩, ⟨#[66]⟩, ⟨#[67]⟩, ⟨#[68]⟩, ⟨#[73]⟩, ⟨#[74]⟩, ⟨#[79, 98, 106, 101, 99, 116]⟩, ⟨#[84, 104, 114, 111, 119, 97, 98, 108, 101]⟩, ⟨#[83, 116, 114, 105, 110, 103]⟩, ⟨#[78, 117, 108, 108]⟩, ⟨#[88]⟩]
def nmR (c : Int) : ByteArray := nmB.getD (pickN c 11) ⟨#[]⟩
theorem nmR_at (c : Int) : nmB[pickN c 11]? = some (nmR c) := by
  have h := pickN_lt c (n := 11) (by decide)
  unfold nmR
  have hl : pickN c 11 < nmB.length := h
  rw [List.getElem?_eq_getElem hl]
  simp [hl]
set_option maxRecDepth 1000000 in
set_option maxHeartbeats 1600000 in
theorem name_any (c : Int) (w : World) (hc : -9223372036854775808 ≤ c ∧ c ≤ 9223372036854775807) :
    Calls Tryz.prog 61 #[.int .i64 c] w fun e w' => e = .returned (.string (nmR c)) ∧ Below w.heap.size w w' := by
  have hlt := pickN_lt c (n := 11) (by decide)
  have PK := Lib.hid (fun W => pick_any c 11 W hc (by decide) (by decide))
  obtain ⟨W1, hW1⟩ : ∃ W, W = w.alloc (.cells (nmB.map Value.string).toArray 9) := ⟨_, rfl⟩
  have hcell : W1.cell? ⟨w.heap.size, pickN c 11, none⟩ = some (.string (nmR c)) := by
    rw [hW1]
    have h1 : (w.alloc (.cells (nmB.map Value.string).toArray 9)).heap[w.heap.size]? = some (.cells (nmB.map Value.string).toArray 9 (0, 0)) := hheap_new w _
    rw [kcells_of h1]
    simp [nmR_at c]
  have hbel : Below w.heap.size w W1 := by rw [hW1]; exact (Below.refl _ _).alloc (Nat.le_refl _) _
  generalize nmR c = s at *
  generalize pickN c 11 = k at *
  go_enter Tryz.func61, Tryz.ntmps61
  go_wp2_with fail
  rw [show w.alloc (.cells #[.string ⟨#[65]⟩, .string ⟨#[66]⟩, .string ⟨#[67]⟩, .string ⟨#[68]⟩, .string ⟨#[73]⟩, .string ⟨#[74]⟩, .string ⟨#[79, 98, 106, 101, 99, 116]⟩, .string ⟨#[84, 104, 114, 111, 119, 97, 98, 108, 101]⟩, .string ⟨#[83, 116, 114, 105, 110, 103]⟩, .string ⟨#[78, 117, 108, 108]⟩, .string ⟨#[88]⟩] 9) = W1 from hW1.symm]
  clear hW1
  refine (PK.out _).mono ?_
  rintro e w2 ⟨rfl, hw2⟩
  subst hw2
  go_wp2
  go_ret
  exact ⟨rfl, hbel⟩
end Go.Proofs.YtmaknddlgppinaaGreatDoor
