/-
  CUT and joined from the texts of this seat: Hh Hj Hw
-/
import Derived.Test.YtmaknddlgppinaaGreatDoorZ06
import Derived.Test.YtmaknddlgppinaaGreatDoorZ05
import Derived.Deep.QuietTactic
import Derived.Deep.DeepCutAuto
import Derived.LaidEqlPtr
import Derived.Deep.RegionHeld
set_option linter.unusedVariables false
set_option linter.unusedSimpArgs false
namespace Go.Proofs.YtmaknddlgppinaaGreatDoor
open Go.RowKit
/-- Nothing that was there is other than it was, but the classes from o on. -/
structure Fr (o n : Nat) (cl : Nat → Nat) (w w' : World) : Prop where
 os : w'.os = w.os
 tape : w'.tape = w.tape
 output : w'.output = w.output
 size : w.heap.size ≤ w'.heap.size
 block : ∀ k, k < w.heap.size → (∀ i, o ≤ i → i < n → cl i ≠ k) → w'.heap[k]? = w.heap[k]?
/-- Each class is as it was but for its set. -/
def Nm (n : Nat) (cl : Nat → Nat) (w w' : World) : Prop := ∀ i, i < n → ∀ k : KC, KAt (cl i) k w → ∃ v, KAt (cl i) (k.set v) w'
section
variable {B o n m : Nat} {cl sl : Nat → Nat} {up : Nat → Option Nat} {ifl : Nat → List Nat} {S : Nat → List Nat} {w a a' : World}
theorem Fr.refl : Fr o n cl w w := ⟨rfl, rfl, rfl, Nat.le_refl _, fun _ _ _ => rfl⟩
theorem Fr.upd (h : Fr o n cl w a) {b : Nat} (u : Upd [b] a a') (hb : w.heap.size ≤ b) : Fr o n cl w a' :=
 ⟨u.os.trans h.os, u.tape.trans h.tape, u.output.trans h.output, Nat.le_trans h.size u.size, fun k hk hn => (u.block k (Nat.lt_of_lt_of_le hk h.size) (by simp; omega)).trans (h.block k hk hn)⟩
theorem Fr.class_ (h : Fr o n cl w a) (obj : Obj) {v : Value} (hm : m < n) (ho : o ≤ m) : Fr o n cl w ((a.alloc obj).setCell ⟨cl m, 10, none⟩ v) :=
 ⟨h.os, h.tape, h.output, by simp; have := h.size; omega, fun k hk hn => (Below.heap_setCell _ _ _ _ (fun e => hn m ho hm e.symm)).trans ((Below.heap_alloc _ _ _ (Nat.lt_of_lt_of_le hk h.size)).trans (h.block k hk hn))⟩
theorem Nm.refl : Nm n cl w w := fun i hi k h => ⟨k.above, h⟩
theorem Nm.class_ (h : Nm n cl w a) (obj : Obj) {v : Value} (hm : m < n) (hc : ∀ i j, i < n → j < n → cl i = cl j → i = j) : Nm n cl w ((a.alloc obj).setCell ⟨cl m, 10, none⟩ v) := by
 intro i hi k hk
 obtain ⟨u, hu⟩ := h i hi k hk
 have ha : KAt (cl i) (k.set u) (a.alloc obj) := (Below.heap_alloc _ _ _ (lt_of_block hu)).trans hu
 by_cases e : i = m
 ·subst e
  exact ⟨v, ha.put v⟩
 ·exact ⟨u, (Below.heap_setCell _ _ _ _ (fun e2 => e (hc i m hi hm e2))).trans ha⟩
theorem Nm.upd (h : Nm n cl w a) (T : Tab B o n cl sl up ifl S a) (hm : m < n) (u : Upd [sl m] a a') : Nm n cl w a' := by
 intro i hi k hk
 obtain ⟨v, hv⟩ := h i hi k hk
 have hne := set_ne hv (T.sets m hm)
 exact ⟨v, (u.block _ (lt_of_block hv) (by simpa using hne)).trans hv⟩
/-- The row of the own classes: it lies in no class's block. -/
def OwnC (o c n : Nat) (cl : Nat → Nat) (A : Option Addr) (w : World) : Prop := ∀ j, j < c → ∃ b o', A = some ⟨b, o', none⟩ ∧ b < w.heap.size ∧ (∀ i, o ≤ i → i < n → cl i ≠ b) ∧ w.cell? ⟨b, o' + j, none⟩ = some (ptrV cl (some (o + j)))
theorem OwnC.fr {c : Nat} {A : Option Addr} (h : OwnC o c n cl A w) (f : Fr o n cl w a) {j : Nat} (hj : j < c) : ∃ b o', A = some ⟨b, o', none⟩ ∧ b < a.heap.size ∧ a.cell? ⟨b, o' + j, none⟩ = some (.pointer (some ⟨cl (o + j), 0, none⟩)) := by
 obtain ⟨b, o', hA, hb, hn, hc⟩ := h j hj
 refine ⟨b, o', hA, Nat.lt_of_lt_of_le hb f.size, ?_⟩
 have := f.block b hb hn
 rw [show (Value.pointer (some ⟨cl (o + j), 0, none⟩)) = ptrV cl (some (o + j)) from rfl, ← hc]
 unfold World.cell?
 rw [this]
theorem sound_zero {cs : List PC} {S0 : Nat → List Nat} (hlo : ∀ i, i < o → i < n → ∀ k, bit (S0 i) k = true → Abv cs i k) (hz : ∀ i, o ≤ i → i < n → ∃ q, S0 i = List.replicate q 0) : Sound cs n S0 := by
 intro i k hi hb
 by_cases h : i < o
 ·exact hlo i h hi k hb
 ·obtain ⟨q, hq⟩ := hz i (by omega) hi
  rw [hq] at hb
  unfold bit at hb
  exfalso
  rw [List.getElem?_replicate] at hb
  split at hb <;> simp at hb
set_option maxRecDepth 1000000 in
set_option maxHeartbeats 6400000 in
theorem fillAbove_any {cs : List PC} {c : Nat} {A : Option Addr} {cap : Nat} (H : Half B o n o cl sl up ifl S w) (hn : n = cs.length) (hc : o + c = n) (hcap : c ≤ cap) (hv : OwnC o c n cl A w) (hB : B ≤ w.heap.size)
  (hdir : ∀ x j, x < n → (Dir up ifl x j ↔ Up cs x j)) (hex : ∀ i, i < o → i < n → ∀ k, bit (S i) k = true ↔ Abv cs i k) :
  Calls Tryz.prog 81 #[.slice A c cap, .int .i64 (n : Int)] w fun e w' => e = .returned (.tuple #[]) ∧ ∃ sl' S', Tab B o n cl sl' up ifl S' w' ∧ (∀ i, i < n → ∀ k, bit (S' i) k = true ↔ Abv cs i k) ∧ Fr o n cl w w' ∧ Nm n cl w w' := by
 have H0 := Lib.hid H
 have HC := Lib.hid hc
 have HV := Lib.hid hv
 have HN := Lib.hid hn
 have HD := Lib.hid hdir
 have HX := Lib.hid hex
 have hfew := H.few
 have hcin := Lib.hid H.cin
 have hcb : c ≤ 1000 := by omega
 clear H hc hv hn hdir hex
 go_enter Tryz.func81, Tryz.ntmps81
 go_wp2
 go_loopw [11] (fun u wx => ∃ (j : Nat) (sl' : Nat → Nat) (S' : Nat → List Nat), j ≤ c ∧ u = .int .i64 j ∧ Half B o n (o + j) cl sl' up ifl S' wx ∧ (∀ i, i < o → S' i = S i) ∧ (∀ i, o ≤ i → i < o + j → w.heap.size ≤ sl' i ∧ ∃ q, S' i = List.replicate q 0) ∧ Fr o n cl w wx ∧ Nm n cl w wx) (fun u _ => c - (intOf u).toNat)
 case atStart => exact ⟨0, sl, S, Nat.zero_le _, rfl, H0.out, fun _ _ => rfl, fun i h1 h2 => by omega, Fr.refl, Nm.refl⟩
 case round =>
  obtain ⟨j, sl', S', hj, rfl, hh, hlo, hown, hfr, hnm⟩ := hrel
  have HH := Lib.hid hh
  have HLO := Lib.hid hlo
  have HOW := Lib.hid hown
  have HFR := Lib.hid hfr
  have HNM := Lib.hid hnm
  have hsz := hfr.size
  by_cases hjc : j < c
  ·obtain ⟨b, o', rfl, hb, hcell⟩ := HV.out.fr hfr hjc
   have hlt : o + j < n := by have := HC.out; omega
   obtain ⟨k, hk1, _⟩ := hh.cls (o + j) hlt
   have hkl := lt_of_block hk1
   have f10 : ∀ i, (wr.alloc (.cells (ucells (List.replicate ((n + 63) / 64) 0)).toArray 160)).frozen? ⟨cl (o + j), i, none⟩ = false := fun i => kfree_of ((Below.heap_alloc _ _ _ hkl).trans hk1) i
   have c10 := kcells_of ((Below.heap_alloc wr (.cells (ucells (List.replicate ((n + 63) / 64) 0)).toArray 160) _ hkl).trans hk1) 10
   have c10' : k.cells.toArray[10]? = some k.above := by simp [KC.cells]
   rw [c10'] at c10
   have HNS := fun W => Lib.hid (newSet_any n (by omega) W)
   clear hh hlo hown hfr hnm hk1 c10'
   go_wp2_with (first | (go_at_call 111; refine (HNS _).out.mono ?_; rintro e wi ⟨rfl, rfl⟩))
   go_roundw
   case rel =>
    have hsc := World.setCell_alloc_past (w := wr) (.cells (ucells (List.replicate ((n + 63) / 64) 0)).toArray 160) (cl (o + j)) 10 (.slice (some ⟨wr.heap.size, 0, none⟩) ((n + 63) / 64) ((n + 63) / 64)) hkl
    rw [← hsc]
    refine ⟨j + 1, put2 sl' (o + j) wr.heap.size, put1 S' (o + j) (List.replicate ((n + 63) / 64) 0), by omega, by go_num, HH.out.step hlt (by omega) (by omega), fun i hi => ?_, fun i h1 h2 => ?_, HFR.out.class_ _ hlt (by omega), HNM.out.class_ _ hlt hcin.out⟩
    ·rw [put1_ne _ _ (by omega)]; exact HLO.out i hi
    ·by_cases e : i = o + j
     ·subst e
      rw [put2_self, put1_self]
      exact ⟨hsz, _, rfl⟩
     ·rw [put2_ne _ _ e, put1_ne _ _ e]
      exact HOW.out i h1 (by omega)
   case measure => simp [intOf]; omega
  ·obtain rfl : c = j := by omega
   have hfull := hh
   rw [HC.out] at hfull hown
   have HT := Lib.hid hfull.full
   have HSD := Lib.hid (sound_zero (cs := cs) (o := o) (n := n) (S0 := S') (fun i h1 h2 k hb => (HX.out i h1 h2 k).1 (by rw [← hlo i h1]; exact hb)) (fun i h1 h2 => (hown i h1 h2).2))
   have HLO2 := Lib.hid (show ∀ i, i < o → i < n → ∀ k, Abv cs i k → bit (S' i) k = true from fun i h1 h2 k hk => by rw [hlo i h1]; exact (HX.out i h1 h2 k).2 hk)
   have HSL := Lib.hid (show ∀ i, o ≤ i → i < n → w.heap.size ≤ sl' i from fun i h1 h2 => (hown i h1 h2).1)
   clear hh hlo hown hfr hnm hfull HH HLO HOW
   go_wp2
   go_loopg [6] (n * n + 1) (fun gk v6 wx => ∃ (S1 : Nat → List Nat) (g : Bool), v6 = .bool g ∧ Tab B o n cl sl' up ifl S1 wx ∧ Sound cs n S1 ∧ (∀ i, i < o → i < n → ∀ k, Abv cs i k → bit (S1 i) k = true) ∧ (g = true → n * n + 1 ≤ told (fun i k => bit (S1 i) k) n + gk) ∧ (g = false → ∀ i, i < n → ∀ k, bit (S1 i) k = true ↔ Abv cs i k) ∧ Fr o n cl w wx ∧ Nm n cl w wx)
   case atStart => exact ⟨S', true, rfl, HT.out, HSD.out, HLO2.out, fun _ => by omega, (fun h => by cases h), HFR.out, HNM.out⟩
   case round =>
    clear HT HSD HLO2 HFR HNM hsz
    obtain ⟨S1, g, rfl, hT, hS, hlo, htd, hex, hfr, hnm⟩ := hrel
    have HT := Lib.hid hT
    have HS := Lib.hid hS
    have HLO := Lib.hid hlo
    have HTD := Lib.hid htd
    have HEX := Lib.hid hex
    have HFR := Lib.hid hfr
    have HNM := Lib.hid hnm
    cases g with
    | false =>
     clear hT hS hlo htd hex hfr hnm
     go_wp2
     go_end0
     exact ⟨rfl, sl', S1, HT.out, HEX.out (by first | rfl | trivial), HFR.out, HNM.out⟩
    | true =>
     have hgk : 0 < gk := by have h1 := htd rfl; have h2 := told_le (fun i k => bit (S1 i) k) n; omega
     clear hT hS hlo htd hex hfr hnm
     go_wp2
     obtain ⟨g1, hg1⟩ : ∃ g, g = gk := ⟨_, rfl⟩
     subst hg1
     go_loopw [6, 24] (fun v6 u wx => ∃ (j : Nat) (S2 : Nat → List Nat) (g : Bool), j ≤ c ∧ v6 = .bool g ∧ u = .int .i64 j ∧ Tab B o n cl sl' up ifl S2 wx ∧ Sound cs n S2 ∧ Pass up ifl o n S1 (o + j) S2 g ∧ (∀ i, i < o → S2 i = S1 i) ∧ Fr o n cl w wx ∧ Nm n cl w wx) (fun _ u _ => c - (intOf u).toNat)
     case atStart => exact ⟨0, S1, false, Nat.zero_le _, rfl, rfl, HT.out, HS.out, Pass.start _ _ _ _ _, fun _ _ => rfl, HFR.out, HNM.out⟩
     case round =>
      clear HFR HNM
      obtain ⟨j, S2, g, hj, rfl, rfl, hT, hS, hP, hlo, hfr, hnm⟩ := hrel
      have HT2 := Lib.hid hT
      have HS2 := Lib.hid hS
      have HP2 := Lib.hid hP
      have HLO2 := Lib.hid hlo
      have HFR := Lib.hid hfr
      have HNM := Lib.hid hnm
      by_cases hjc : j < c
      ·obtain ⟨b, o', rfl, hb, hcell⟩ := HV.out.fr hfr hjc
       have hlt : o + j < n := by have := HC.out; omega
       have KEY := Lib.hid (takeAbove_any hT (i := o + j) (by omega) hlt)
       clear hT hS hP hlo hfr hnm
       go_wp2_with fail
       refine KEY.out.mono ?_
       rintro e w2 ⟨us, g2, rfl, hT3, hU3, hK3⟩
       have T3 := Lib.hid hT3
       have HP3 := Lib.hid (HP2.out.step hlt hK3)
       have HS3 := Lib.hid (HS2.out.step HD.out HN.out hlt hK3)
       have HL3 := Lib.hid (show ∀ i, i < o → put1 S2 (o + j) us i = S1 i from fun i hi => by rw [put1_ne _ _ (by omega)]; exact HLO2.out i hi)
       have HF3 := Lib.hid (HFR.out.upd hU3 (HSL.out (o + j) (by omega) hlt))
       have HN3 := Lib.hid (HNM.out.upd HT2.out hlt hU3)
       clear hT3 hU3 hK3
       cases g2 <;> cases g <;>
       ·go_wp2
        go_roundw
        case rel => exact ⟨j + 1, _, _, by omega, rfl, by go_num, T3.out, HS3.out, HP3.out, HL3.out, HF3.out, HN3.out⟩
        case measure => simp [intOf]; omega
      ·obtain rfl : c = j := by omega
       have hP' := hP
       rw [HC.out] at hP'
       have HP3 := Lib.hid hP'
       clear hT hS hP hlo hfr hnm hP'
       cases g with
       | false =>
        go_wp2
        go_roundg (g1 - 1)
        case measure => omega
        case rel => exact ⟨S2, false, rfl, HT2.out, HS2.out, fun i h1 h2 k hk => by rw [HLO2.out i h1]; exact HLO.out i h1 h2 k hk, (fun h => by cases h), fun _ i hi k => HP3.out.ends HS2.out HD.out HN.out (fun i h1 h2 k hk => by rw [HLO2.out i h1]; exact HLO.out i h1 h2 k hk) hi k, HFR.out, HNM.out⟩
       | true =>
        go_wp2
        go_roundg (g1 - 1)
        case measure => omega
        case rel => exact ⟨S2, true, rfl, HT2.out, HS2.out, fun i h1 h2 k hk => by rw [HLO2.out i h1]; exact HLO.out i h1 h2 k hk, (fun _ => by have h1 := HP3.out.grows HS2.out HN.out; have h2 := HTD.out (by first | rfl | trivial); omega), (fun h => by cases h), HFR.out, HNM.out⟩
end
theorem und108 : Tryz.prog.underlying 108 = some (.pointer 116) := by kernel_rfl
theorem info116 : ∃ j, Tryz.prog.info? 116 = some j ∧ j.size ≠ 0 := by
 have h : (Tryz.prog.info? 116).map (·.size) = some 11 := by kernel_rfl
 cases e : Tryz.prog.info? 116 with
 | none => rw [e] at h; cases h
 | some j => rw [e] at h; exact ⟨j, rfl, fun h2 => by simp [h2] at h⟩
theorem neq_same (w : World) (a : Addr) : (binOp .neq 108 (.pointer (some a)) (.pointer (some a))).run Tryz.prog w = .ok (.bool false) w := by
 obtain ⟨j, hj, _⟩ := info116
 have h : ∀ d : Nat, (Op.equalIn (d + 1) 108 (.pointer (some a)) (.pointer (some a))).run Tryz.prog w = .ok true w := fun d => by
  simp [Op.equalIn, run_underlying und108, sizeOf, typeInfo, hj, run_sameAddr_same]
 simp only [binOp]
 simp [Op.equal, Op.maxDepth, h 9999]
theorem neq_other {w : World} {c d : Nat} {k l : KC} (hc : KAt c k w) (hd : KAt d l w) (hne : c ≠ d) (m : Nat) : (binOp .neq 108 (.pointer (some ⟨c, 0, none⟩)) (.pointer (some ⟨d, 0, none⟩))).run Tryz.prog (w.drewN m) = .ok (.bool true) (w.drewN m) := by
 obtain ⟨j, hj, hsz⟩ := info116
 have h : ∀ e : Nat, (Op.equalIn (e + 1) 108 (.pointer (some ⟨c, 0, none⟩)) (.pointer (some ⟨d, 0, none⟩))).run Tryz.prog (w.drewN m) = .ok false (w.drewN m) := fun e => by
  simp [Op.equalIn, run_underlying und108, sizeOf, typeInfo, hj, hsz, run_sameAddr_other (w.drewN m) (a := ⟨c, 0, none⟩) (b := ⟨d, 0, none⟩) (by simp [hne]) hc hd]
 simp only [binOp]
 simp [Op.equal, Op.maxDepth, h 9999]
theorem KAt.drewN {c : Nat} {k : KC} {w : World} (h : KAt c k w) (m : Nat) : KAt c k (w.drewN m) := h
theorem KAt.one {c : Nat} {k l : KC} {w : World} (h : KAt c k w) (h2 : KAt c l w) : k.place = l.place := by
 have e : w.cell? ⟨c, 7, none⟩ = some (.int .i64 (k.place : Int)) := h.cell 7
 have e2 : w.cell? ⟨c, 7, none⟩ = some (.int .i64 (l.place : Int)) := h2.cell 7
 rw [e] at e2
 injection e2 with e2
 injection e2 with _ e2
 omega
section
variable {B o n : Nat} {cl sl : Nat → Nat} {up : Nat → Option Nat} {ifl : Nat → List Nat} {S : Nat → List Nat} {w : World}
theorem Tab.cin (T : Tab B o n cl sl up ifl S w) {i j : Nat} (hi : i < n) (hj : j < n) (h : cl i = cl j) : i = j := by
 obtain ⟨k, k1, k2, _⟩ := T.cls i hi
 obtain ⟨l, l1, l2, _⟩ := T.cls j hj
 rw [h] at k1
 have := k1.one l1
 omega
set_option maxRecDepth 1000000 in
set_option maxHeartbeats 6400000 in
theorem common_any {cs : List PC} (G : Good cs) (T : Tab B o n cl sl up ifl S w) (hn : n = cs.length) (hex : ∀ i, i < n → ∀ k, bit (S i) k = true ↔ Abv cs i k) (hup : ∀ i, i < n → up i = sup cs i) {i j : Nat} (hi : i < n) (hj : j < n) (hI : isJ cs i = false) :
  Calls Tryz.prog 68 #[.pointer (some ⟨cl i, 0, none⟩), .pointer (some ⟨cl j, 0, none⟩)] w fun e w' => e = .returned (.pointer (some ⟨cl (mt cs i j), 0, none⟩)) ∧ ∃ m, w' = w.drewN m := by
 have HT := Lib.hid T
 have HX := Lib.hid hex
 have HU := Lib.hid hup
 have HN := Lib.hid hn
 have HJ := Lib.hid hj
 have hlc : j < cs.length := by omega
 have HB := Lib.hid (come_begin G (j := j) (show i < cs.length by omega))
 have HLC := Lib.hid hlc
 have HI := Lib.hid hI
 have HG := Lib.hid G
 clear T hex hup hn hI hlc hi hj G
 go_enter Tryz.func68, Tryz.ntmps68
 go_wp2
 go_loopg [0] (rank cs i) (fun gk v wx => ∃ a : Nat, v = .pointer (some ⟨cl a, 0, none⟩) ∧ Come cs i j a ∧ rank cs a ≤ gk ∧ ∃ m, wx = w.drewN m)
 case atStart => exact ⟨i, rfl, HB.out, Nat.le_refl _, 0, rfl⟩
 case round =>
  obtain ⟨a, rfl, hC, hgk, m, rfl⟩ := hrel
  have HC := Lib.hid hC
  have han : a < n := by have := hC.1; have := HN.out; omega
  clear hC
  by_cases haj : a = j
  ·have HE := Lib.hid (come_end HG.out HI.out HC.out (.inl haj))
   subst haj
   have q := neq_same (w.drewN m) ⟨cl a, 0, none⟩
   go_wp2
   go_ret
   exact ⟨by rw [HE.out]; rfl, m, rfl⟩
  ·obtain ⟨k, k1, k2, k3, _⟩ := HT.out.cls a han
   obtain ⟨l, l1, l2, _, _, l5⟩ := HT.out.cls j HJ.out
   have q := neq_other k1 l1 (fun e => haj (HT.out.cin han HJ.out e)) m
   have hu := under_any (l1.drewN m) (k1.drewN m) l5 ((HT.out.sets j HJ.out).drewN m) (by have := HT.out.few; omega)
   rw [k2] at hu
   have c8 : ∀ m', (w.drewN m').cell? ⟨cl a, 8, none⟩ = some (ptrV cl (up a)) := fun m' => by rw [(k1.drewN m').cell 8, ← k3]; rfl
   have C8 := Lib.hid c8
   have KU := Lib.hid hu
   clear k1 k2 k3 l1 l2 l5 hu c8
   cases hb : bit (S j) a with
   | true =>
    have HE := Lib.hid (come_end HG.out HI.out HC.out (.inr ((HX.out j HJ.out a).1 hb)))
    rw [hb] at KU
    clear hb
    go_wp2_with fail
    refine KU.out.mono ?_
    rintro e w1 ⟨rfl, m', rfl⟩
    clear q
    go_wp2
    go_ret
    exact ⟨by rw [HE.out]; rfl, m + m', by simp⟩
   | false =>
    obtain ⟨b, hb1, hb2, hb3⟩ := come_on HG.out HLC.out HC.out (fun h => h.elim haj (fun h => by have := (HX.out j HJ.out a).2 h; rw [hb] at this; cases this))
    rw [hb] at KU
    have hup := HU.out a han
    rw [hb1] at hup
    rw [hup] at C8
    have hgg : gk - 1 < gk := by omega
    have HB2 := Lib.hid hb2
    clear hb hb1 hup hb2
    go_wp2_with fail
    refine KU.out.mono ?_
    rintro e w1 ⟨rfl, m', rfl⟩
    clear q
    obtain ⟨m2, e2⟩ : ∃ m2, (w.drewN m).drewN m' = w.drewN m2 := ⟨m + m', by simp⟩
    rw [e2]
    have c8 : (w.drewN m2).cell? ⟨cl a, 8, none⟩ = some (.pointer (some ⟨cl b, 0, none⟩)) := C8.out m2
    go_wp2
    go_roundg (gk - 1)
    case measure => exact hgg
    case rel => exact ⟨b, rfl, HB2.out, by omega, m2, rfl⟩
end
theorem TMap.push {mb : Nat} {cs : List PC} {cl : Nat → Nat} {w : World} (h : TMap mb cs cl w) (o : Obj) : TMap mb cs cl (w.alloc o).drew := h.same (Below.heap_alloc _ _ _ h.lt)
set_option maxRecDepth 1000000 in
set_option maxHeartbeats 3200000 in
theorem has_named {tb mb : Nat} {cs : List PC} {cl : Nat → Nat} {w : World} (hm : TMap mb cs cl w) (c1 : w.cell? ⟨tb, 1, none⟩ = some (.map (some mb))) (d : Int) (s : ByteArray) (hs : s.size ≤ maxLen) :
  Calls Tryz.prog 65 #[.pointer (some ⟨tb, 0, none⟩), .agg #[.int .i64 d, .string s]] w fun e w' => e = .returned (.bool (decide (0 ≤ d ∧ d ≤ 4 ∧ (s.toList = [] ∨ (ix cs s.data.toList).isSome = true)))) ∧ Below w.heap.size w w' := by
 have hlook := fun o => (hm.push o).look s hs
 have c2 : ∀ o, (w.alloc o).drew.cell? ⟨tb, 1, none⟩ = some (.map (some mb)) := fun o => by
  rw [← c1]
  exact World.cell?_alloc_some w _ o (by rw [c1]; rfl)
 clear hm c1
 by_cases d1 : 0 ≤ d
 ·by_cases d2 : d ≤ 4
  ·by_cases d3 : s.toList = []
   ·clear hlook
    go_enter Tryz.func65, Tryz.ntmps65
    go_wp2
    go_region
    go_wp2
    go_ret
    refine ⟨?_, ((Below.refl w.heap.size w).alloc (Nat.le_refl _) _).drew⟩
    refine congrArg (fun b => Ending.returned (Value.bool b)) (a₁ := _) ?_
    simp [*]
   ·have e3 : decide (s.toList = []) = false := by simpa using d3
    have e4 : (s.toList == []) = false := by simpa using d3
    cases hix : ix cs s.data.toList with
    | none =>
     rw [hix] at hlook
     have hl : ∀ o, (Instr.lookup 110 (.map (some mb)) (.string s) false).run Tryz.prog (w.alloc o).drew = .ok (.pointer none) (w.alloc o).drew := hlook
     clear hlook hix
     go_enter Tryz.func65, Tryz.ntmps65
     go_wp2
     go_region
     go_wp2
     go_ret
     refine ⟨?_, ((Below.refl w.heap.size w).alloc (Nat.le_refl _) _).drew⟩
     refine congrArg (fun b => Ending.returned (Value.bool b)) (a₁ := _) ?_
     simp [*]
    | some j =>
     rw [hix] at hlook
     have hl : ∀ o, (Instr.lookup 110 (.map (some mb)) (.string s) false).run Tryz.prog (w.alloc o).drew = .ok (.pointer (some ⟨cl j, 0, none⟩)) (w.alloc o).drew := hlook
     clear hlook hix
     go_enter Tryz.func65, Tryz.ntmps65
     go_wp2
     go_region
     go_wp2
     go_ret
     refine ⟨?_, ((Below.refl w.heap.size w).alloc (Nat.le_refl _) _).drew⟩
     refine congrArg (fun b => Ending.returned (Value.bool b)) (a₁ := _) ?_
     simp [*]
  ·have e2 : decide (d ≤ 4) = false := by simpa using d2
   clear hlook
   go_enter Tryz.func65, Tryz.ntmps65
   go_wp2
   go_region
   go_wp2
   go_ret
   refine ⟨?_, ((Below.refl w.heap.size w).alloc (Nat.le_refl _) _).drew⟩
   refine congrArg (fun b => Ending.returned (Value.bool b)) (a₁ := _) ?_
   simp [*]
 ·have e1 : decide (0 ≤ d) = false := by simpa using d1
  clear hlook
  go_enter Tryz.func65, Tryz.ntmps65
  go_wp2
  go_region
  go_wp2
  go_ret
  refine ⟨?_, ((Below.refl w.heap.size w).alloc (Nat.le_refl _) _).drew⟩
  refine congrArg (fun b => Ending.returned (Value.bool b)) (a₁ := _) ?_
  simp [*]
end Go.Proofs.YtmaknddlgppinaaGreatDoor
