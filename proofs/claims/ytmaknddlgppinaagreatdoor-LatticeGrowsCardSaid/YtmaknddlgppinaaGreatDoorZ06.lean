/-
  CUT and joined from the texts of this seat: Ht Hf Hg
-/
import Derived.Test.YtmaknddlgppinaaGreatDoorZ05
set_option linter.unusedVariables false
set_option linter.unusedSimpArgs false
namespace Go.Proofs.YtmaknddlgppinaaGreatDoor
open Go.RowKit
/-- What is taken so far: of those directly above, t of the interfaces. -/
structure Took (up : Option Nat) (l : List Nat) (S : Nat → List Nat) (i : Nat) (us : List Nat) (g : Bool) : Prop where
 len : us.length = (S i).length
 keep : ∀ k, bit (S i) k = true → bit us k = true
 grown : g = true ↔ ∃ k, bit us k = true ∧ bit (S i) k = false
 done : ∀ j, up = some j ∨ j ∈ l → bit us j = true ∧ ∀ k, bit (S j) k = true → bit us k = true
 sound : ∀ P : Nat → Prop, (∀ k, bit (S i) k = true → P k) → (∀ j, up = some j ∨ j ∈ l → P j ∧ ∀ k, bit (S j) k = true → P k) → ∀ k, bit us k = true → P k
theorem Took.start (S : Nat → List Nat) (i : Nat) : Took none [] S i (S i) false :=
 ⟨rfl, fun _ h => h, by simp, fun j h => by simp at h, fun P h _ k hk => h k hk⟩
/-- One more that is directly above. -/
theorem Took.more {up : Option Nat} {l : List Nat} {S : Nat → List Nat} {i j : Nat} {us vs : List Nat} {g g2 : Bool} {up' : Option Nat} {l' : List Nat} (h : Took up l S i us g) (hl : vs.length = us.length)
  (hb : ∀ k, bit vs k = (bit us k || decide (k = j) || bit (put1 S i us j) k)) (hg : g2 = true ↔ ∃ k, bit vs k = true ∧ bit us k = false)
  (hd : ∀ x, (up' = some x ∨ x ∈ l') ↔ (up = some x ∨ x ∈ l) ∨ x = j) : Took up' l' S i vs (g2 || g) := by
 have hput : ∀ k, bit (put1 S i us j) k = true → bit us k = true ∨ bit (S j) k = true := by
  intro k hk
  by_cases e : j = i
  ·subst e; rw [put1_self] at hk; exact .inl hk
  ·rw [put1_ne _ _ e] at hk; exact .inr hk
 have hmono : ∀ k, bit us k = true → bit vs k = true := fun k hk => by rw [hb, hk]; simp
 refine ⟨hl.trans h.len, fun k hk => hmono k (h.keep k hk), ?_, ?_, ?_⟩
 ·rw [Bool.or_eq_true]
  constructor
  ·rintro (h1 | h1)
   ·obtain ⟨k, a, b⟩ := hg.1 h1
    refine ⟨k, a, ?_⟩
    cases hs : bit (S i) k with
    | false => rfl
    | true => rw [h.keep k hs] at b; cases b
   ·obtain ⟨k, a, b⟩ := h.grown.1 h1
    exact ⟨k, hmono k a, b⟩
  ·rintro ⟨k, a, b⟩
   cases hu : bit us k with
   | true => exact .inr (h.grown.2 ⟨k, hu, b⟩)
   | false => exact .inl (hg.2 ⟨k, a, hu⟩)
 ·intro x hx
  rcases (hd x).1 hx with h1 | rfl
  ·obtain ⟨a, b⟩ := h.done x h1
   exact ⟨hmono x a, fun k hk => hmono k (b k hk)⟩
  ·refine ⟨by rw [hb]; simp, fun k hk => ?_⟩
   by_cases e : x = i
   ·subst e; exact hmono k (h.keep k hk)
   ·rw [hb, put1_ne _ _ e, hk]; simp
 ·intro P h1 h2 k hk
  have h3 := h.sound P h1 (fun x hx => h2 x ((hd x).2 (.inl hx)))
  rw [hb, Bool.or_eq_true, Bool.or_eq_true, decide_eq_true_eq] at hk
  rcases hk with (hk | rfl) | hk
  ·exact h3 k hk
  ·exact (h2 k ((hd k).2 (.inr rfl))).1
  ·rcases hput k hk with h4 | h4
   ·exact h3 k h4
   ·exact (h2 j ((hd j).2 (.inr rfl))).2 k h4
section
variable {B o n : Nat} {cl sl : Nat → Nat} {up : Nat → Option Nat} {ifl : Nat → List Nat} {S : Nat → List Nat} {w : World}
set_option maxRecDepth 1000000 in
set_option maxHeartbeats 3200000 in
theorem takeAbove_any (T : Tab B o n cl sl up ifl S w) {i : Nat} (ho : o ≤ i) (hi : i < n) :
  Calls Tryz.prog 112 #[ptrV cl (some i)] w fun e w' => ∃ us, ∃ g : Bool, e = .returned (.bool g) ∧ Tab B o n cl sl up ifl (put1 S i us) w' ∧ Upd [sl i] w w' ∧ Took (up i) (ifl i) S i us g := by
 obtain ⟨k, h1, h2, h3, h4, h5⟩ := T.cls i hi
 obtain ⟨A, cap, hv, hcap, hml, hr⟩ := h4
 have hne := set_ne h1 (T.sets i hi)
 have c8 : w.cell? ⟨cl i, 8, none⟩ = some (ptrV cl (up i)) := by rw [h1.cell 8, ← h3]; rfl
 have c9 : w.cell? ⟨cl i, 9, none⟩ = some (.slice A (ifl i).length cap) := by rw [h1.cell 9, ← hv]; rfl
 have c10 : w.cell? ⟨cl i, 10, none⟩ = some (.slice (some ⟨sl i, 0, none⟩) (S i).length (S i).length) := by rw [h1.cell 10, ← h5]; rfl
 have HC9 : Hid (∀ w1, Upd [sl i] w w1 → w1.cell? ⟨cl i, 9, none⟩ = some (.slice A (ifl i).length cap)) := Lib.hid (fun w1 hU => by
  rw [← c9]
  have := hU.block (cl i) (lt_of_block h1) (by simpa using hne)
  unfold World.cell?
  rw [this])
 have hlow := T.low i ho hi
 have hsz := lt_of_block (T.sets i hi).row
 have HROW : Hid (∀ w1, Upd [sl i] w w1 → ∀ t, (ht : t < (ifl i).length) → ∃ b o', A = some ⟨b, o', none⟩ ∧ w1.cell? ⟨b, o' + t, none⟩ = some (.pointer (some ⟨cl (ifl i)[t], 0, none⟩))) := Lib.hid (fun w1 hU t ht => by
  obtain ⟨b, o', hA, hb, hc⟩ := hr.2 (by omega)
  refine ⟨b, o', hA, ?_⟩
  have h9 := hc t (ptrV cl (some (ifl i)[t])) (by rw [List.getElem?_map, List.getElem?_eq_getElem ht]; rfl)
  have := hU.block b (by omega) (by simp; omega)
  rw [show (Value.pointer (some ⟨cl (ifl i)[t], 0, none⟩)) = ptrV cl (some (ifl i)[t]) from rfl, ← h9]
  unfold World.cell?
  rw [this])
 have HABV : Hid (∀ w1 (us : List Nat), Tab B o n cl sl up ifl (put1 S i us) w1 → us.length = (S i).length → w1.cell? ⟨cl i, 10, none⟩ = some (.slice (some ⟨sl i, 0, none⟩) (S i).length (S i).length)) := Lib.hid (fun w1 us hT hl => by
  obtain ⟨k', q1, _, _, _, q5⟩ := hT.cls i hi
  rw [put1_self, hl] at q5
  rw [q1.cell 10, ← q5]; rfl)
 have hfew : (ifl i).length ≤ 9223372036854775807 := by
  have : maxLen ≤ 9223372036854775807 := by decide
  omega
 clear h1 h2 h3 h5 hv hr hne hlow hsz hcap hml
 rw [show ptrV cl (some i) = .pointer (some ⟨cl i, 0, none⟩) from rfl]
 cases hup : up i with
 | none =>
  rw [hup] at c8
  have c8' : w.cell? ⟨cl i, 8, none⟩ = some (.pointer none) := c8
  clear c8 c10
  have c9a := HC9.out w.drew ((Upd.refl _ _).drewN 1)
  go_enter Tryz.func112, Tryz.ntmps112
  go_wp2
  go_region
  go_wp2
  clear c9a
  go_loopg [3, 27] (ifl i).length (fun gk v3 v27 wx => ∃ (t : Nat) (us : List Nat) (g : Bool), v3 = .bool g ∧ v27 = .int .i64 (t : Int) ∧ t + gk = (ifl i).length ∧ Tab B o n cl sl up ifl (put1 S i us) wx ∧ Upd [sl i] w wx ∧ Took (up i) ((ifl i).take t) S i us g)
  case atStart => exact ⟨0, S i, false, rfl, rfl, by omega, by rw [put1_same]; exact T.drewN 1, (Upd.refl _ _).drewN 1, by rw [hup, List.take_zero]; exact Took.start S i⟩
  case round =>
   obtain ⟨t, us, g, rfl, rfl, htg, hT, hU, hK⟩ := hrel
   have T1 := Lib.hid hT
   have U1 := Lib.hid hU
   have K1 := Lib.hid hK
   have htg1 := Lib.hid htg
   by_cases hk : t < (ifl i).length
   ·have hki : (t : Int) < ((ifl i).length : Int) := by omega
    have hgg : gk - 1 < gk := by omega
    obtain ⟨b, o', rfl, hcell⟩ := HROW.out _ hU t hk
    have c11 := HABV.out _ us hT hK.len
    have hlt := T.ifn i _ hi (List.getElem_mem hk)
    have KEY := Lib.hid (hT.addUp ho hi hlt)
    have hx : (ifl i)[t]? = some (ifl i)[t] := by simp [hk]
    have HX := Lib.hid hx
    generalize (ifl i)[t] = j at *
    clear hT hU hK hx htg
    go_wp2_with fail
    have key := KEY.out
    rw [put1_self, K1.out.len] at key
    refine key.mono ?_
    rintro e w2 ⟨vs, g2, rfl, hl, hb, hg, hT2, hU2⟩
    rw [put1_twice] at hT2
    have R2 := Lib.hid (K1.out.more (up' := up i) (l' := (ifl i).take (t + 1)) (j := j) (hl.trans K1.out.len.symm) hb hg (by
     intro x
     rw [List.take_add_one, HX.out]
     simp [or_assoc]))
    have T2 := Lib.hid hT2
    have U2 := Lib.hid (U1.out.trans hU2)
    clear hl hb hg hT2 hU2 key
    go_wp2
    ·go_roundg (gk - 1)
     case measure => exact hgg
     case rel =>
      have R3 := R2.out
      rename_i hgt
      rw [hgt] at R3
      exact ⟨t + 1, vs, true, rfl, by go_num, by have := htg1.out; omega, T2.out, U2.out, R3⟩
    ·go_roundg (gk - 1)
     case measure => exact hgg
     case rel =>
      have R3 := R2.out
      rename_i hgt
      rw [show g2 = false by simpa using hgt] at R3
      exact ⟨t + 1, vs, g, rfl, by go_num, by have := htg1.out; omega, T2.out, U2.out, R3⟩
   ·obtain rfl : t = (ifl i).length := by omega
    rw [List.take_length] at hK
    have K2 := Lib.hid hK
    clear hT hU hK htg
    go_wp2
    go_ret
    exact ⟨us, g, rfl, T1.out, U1.out, by rw [← hup]; exact K2.out⟩
 | some j =>
  rw [hup] at c8
  have c8' : w.cell? ⟨cl i, 8, none⟩ = some (.pointer (some ⟨cl j, 0, none⟩)) := c8
  have key := (T.drewN 1).addUp ho hi (T.upn i j hi hup)
  have key : Calls Tryz.prog 123 #[.slice (some ⟨sl i, 0, none⟩) (S i).length (S i).length, .pointer (some ⟨cl j, 0, none⟩)] w.drew _ := key
  have KEY := Lib.hid key
  clear c8 key
  go_enter Tryz.func112, Tryz.ntmps112
  go_wp2
  refine wp_region_still_tail 14 (by kernel_rfl) (by kernel_rfl) ?_
  change wpStill _ _ w.drew _ _ _
  simp only [List.take_succ_cons, List.take_zero, List.drop_succ_cons, List.drop_zero]
  repeat still_step
  refine wpStill_nil ?_
  change wpList _ _ _ _ _ w.drew
  go_wp2_with fail
  refine (KEY.out).mono ?_
  rintro e w1 ⟨us0, g0, rfl, hl, hb, hg, hT, hU⟩
  have R0 := Lib.hid ((Took.start S i).more (up' := some j) (l' := []) (j := j) hl (by rw [put1_same]; exact hb) hg (by intro x; simp [eq_comm]))
  have U0 : Hid (Upd [sl i] w w1) := Lib.hid (((Upd.refl _ _).drewN 1).trans hU)
  have T0 := Lib.hid hT
  have c9a := HC9.out w1 U0.out
  clear hl hb hg hT hU
  go_wp2
  clear c9a
  go_loopg [3, 27] (ifl i).length (fun gk v3 v27 wx => ∃ (t : Nat) (us : List Nat) (g : Bool), v3 = .bool g ∧ v27 = .int .i64 (t : Int) ∧ t + gk = (ifl i).length ∧ Tab B o n cl sl up ifl (put1 S i us) wx ∧ Upd [sl i] w wx ∧ Took (up i) ((ifl i).take t) S i us g)
  case atStart => exact ⟨0, us0, _, rfl, rfl, by omega, T0.out, U0.out, by rw [hup, List.take_zero]; simpa using R0.out⟩
  case round =>
   obtain ⟨t, us, g, rfl, rfl, htg, hT, hU, hK⟩ := hrel
   have T1 := Lib.hid hT
   have U1 := Lib.hid hU
   have K1 := Lib.hid hK
   have htg1 := Lib.hid htg
   by_cases hk : t < (ifl i).length
   ·have hki : (t : Int) < ((ifl i).length : Int) := by omega
    have hgg : gk - 1 < gk := by omega
    obtain ⟨b, o', rfl, hcell⟩ := HROW.out _ hU t hk
    have c11 := HABV.out _ us hT hK.len
    have hlt := T.ifn i _ hi (List.getElem_mem hk)
    have KEY := Lib.hid (hT.addUp ho hi hlt)
    have hx : (ifl i)[t]? = some (ifl i)[t] := by simp [hk]
    have HX := Lib.hid hx
    generalize (ifl i)[t] = j at *
    clear hT hU hK hx htg
    go_wp2_with fail
    have key := KEY.out
    rw [put1_self, K1.out.len] at key
    refine key.mono ?_
    rintro e w2 ⟨vs, g2, rfl, hl, hb, hg, hT2, hU2⟩
    rw [put1_twice] at hT2
    have R2 := Lib.hid (K1.out.more (up' := up i) (l' := (ifl i).take (t + 1)) (j := j) (hl.trans K1.out.len.symm) hb hg (by
     intro x
     rw [List.take_add_one, HX.out]
     simp [or_assoc]))
    have T2 := Lib.hid hT2
    have U2 := Lib.hid (U1.out.trans hU2)
    clear hl hb hg hT2 hU2 key
    go_wp2
    ·go_roundg (gk - 1)
     case measure => exact hgg
     case rel =>
      have R3 := R2.out
      rename_i hgt
      rw [hgt] at R3
      exact ⟨t + 1, vs, true, rfl, by go_num, by have := htg1.out; omega, T2.out, U2.out, R3⟩
    ·go_roundg (gk - 1)
     case measure => exact hgg
     case rel =>
      have R3 := R2.out
      rename_i hgt
      rw [show g2 = false by simpa using hgt] at R3
      exact ⟨t + 1, vs, g, rfl, by go_num, by have := htg1.out; omega, T2.out, U2.out, R3⟩
   ·obtain rfl : t = (ifl i).length := by omega
    rw [List.take_length] at hK
    have K2 := Lib.hid hK
    clear hT hU hK htg
    go_wp2
    go_ret
    exact ⟨us, g, rfl, T1.out, U1.out, by rw [← hup]; exact K2.out⟩
end
/-- Who is directly above, by the links. -/
def Dir (up : Nat → Option Nat) (ifl : Nat → List Nat) (i j : Nat) : Prop := up i = some j ∨ j ∈ ifl i
/-- The sets hold nothing but what is above. -/
def Sound (cs : List PC) (n : Nat) (S : Nat → List Nat) : Prop := ∀ i k, i < n → bit (S i) k = true → Abv cs i k
/-- A pass that began with S0 has come ahead of the class i. -/
structure Pass (up : Nat → Option Nat) (ifl : Nat → List Nat) (o n : Nat) (S0 : Nat → List Nat) (i : Nat) (S : Nat → List Nat) (g : Bool) : Prop where
 keep : ∀ x k, bit (S0 x) k = true → bit (S x) k = true
 off : g = false → (∀ x k, bit (S x) k = bit (S0 x) k) ∧ ∀ x, o ≤ x → x < i → ∀ j, Dir up ifl x j → bit (S x) j = true ∧ ∀ k, bit (S j) k = true → bit (S x) k = true
 on : g = true → ∃ x k, x < n ∧ bit (S x) k = true ∧ bit (S0 x) k = false
theorem Pass.start (up : Nat → Option Nat) (ifl : Nat → List Nat) (o n : Nat) (S : Nat → List Nat) : Pass up ifl o n S o S false :=
 ⟨fun _ _ h => h, fun _ => ⟨fun _ _ => rfl, fun x h1 h2 => by omega⟩, fun h => by cases h⟩
theorem Pass.step {up : Nat → Option Nat} {ifl : Nat → List Nat} {o n i : Nat} {S0 S : Nat → List Nat} {g g' : Bool} {us : List Nat} (h : Pass up ifl o n S0 i S g) (hi : i < n) (hk : Took (up i) (ifl i) S i us g') :
  Pass up ifl o n S0 (i + 1) (put1 S i us) (g' || g) := by
 have hmono : ∀ x k, bit (S x) k = true → bit (put1 S i us x) k = true := by
  intro x k hx
  by_cases e : x = i
  ·subst e; rw [put1_self]; exact hk.keep k hx
  ·rw [put1_ne _ _ e]; exact hx
 refine ⟨fun x k hx => hmono x k (h.keep x k hx), ?_, ?_⟩
 ·intro hg
  rw [Bool.or_eq_false_iff] at hg
  obtain ⟨h1, h2⟩ := h.off hg.2
  have hus : ∀ k, bit us k = bit (S i) k := by
   intro k
   cases hb : bit (S i) k with
   | true => exact hk.keep k hb
   | false =>
    cases hu : bit us k with
    | false => rfl
    | true =>
     have := hk.grown.2 ⟨k, hu, hb⟩
     rw [hg.1] at this; cases this
  have hall : ∀ x k, bit (put1 S i us x) k = bit (S x) k := by
   intro x k
   by_cases e : x = i
   ·subst e; rw [put1_self, hus]
   ·rw [put1_ne _ _ e]
  refine ⟨fun x k => (hall x k).trans (h1 x k), ?_⟩
  intro x hx1 hx2 j hj
  rw [hall]
  by_cases e : x = i
  ·subst e
   obtain ⟨a, b⟩ := hk.done j hj
   refine ⟨by rw [← hus]; exact a, fun k hkk => ?_⟩
   rw [hall] at hkk ⊢
   rw [← hus]; exact b k hkk
  ·obtain ⟨a, b⟩ := h2 x hx1 (by omega) j hj
   refine ⟨a, fun k hkk => ?_⟩
   rw [hall] at hkk ⊢
   exact b k hkk
 ·intro hg
  rw [Bool.or_eq_true] at hg
  rcases hg with hg | hg
  ·obtain ⟨k, a, b⟩ := hk.grown.1 hg
   refine ⟨i, k, hi, by rw [put1_self]; exact a, ?_⟩
   cases hb : bit (S0 i) k with
   | false => rfl
   | true => rw [h.keep i k hb] at b; cases b
  ·obtain ⟨x, k, a, b, c⟩ := h.on hg
   exact ⟨x, k, a, hmono x k b, c⟩
theorem Sound.step {cs : List PC} {up : Nat → Option Nat} {ifl : Nat → List Nat} {n i : Nat} {S : Nat → List Nat} {g' : Bool} {us : List Nat} (h : Sound cs n S) (hdir : ∀ x j, x < n → (Dir up ifl x j ↔ Up cs x j)) (hn : n = cs.length) (hi : i < n) (hk : Took (up i) (ifl i) S i us g') : Sound cs n (put1 S i us) := by
 intro x k hx hb
 by_cases e : x = i
 ·subst e
  rw [put1_self] at hb
  refine hk.sound (Abv cs x) (fun k hk => h x k hx hk) (fun j hj => ?_) k hb
  have hu := (hdir x j hx).1 hj
  exact ⟨.one hu, fun k hk => .more hu (h j k (by have := hu.lt.2; omega) hk)⟩
 ·rw [put1_ne _ _ e] at hb
  exact h x k hx hb
/-- A pass in which something new came: more is told. -/
theorem Pass.grows {cs : List PC} {up : Nat → Option Nat} {ifl : Nat → List Nat} {o n i : Nat} {S0 S : Nat → List Nat} (h : Pass up ifl o n S0 i S true) (hs : Sound cs n S) (hn : n = cs.length) :
  told (fun i k => bit (S0 i) k) n < told (fun i k => bit (S i) k) n := by
 obtain ⟨x, k, a, b, c⟩ := h.on rfl
 have := (hs x k a b).lt.2
 exact told_lt (fun i k hk => h.keep i k hk) a (by omega) c b
/-- A pass in which nothing new came: the sets are what is above. -/
theorem Pass.ends {cs : List PC} {up : Nat → Option Nat} {ifl : Nat → List Nat} {o n : Nat} {S0 S : Nat → List Nat} (h : Pass up ifl o n S0 n S false) (hs : Sound cs n S) (hdir : ∀ x j, x < n → (Dir up ifl x j ↔ Up cs x j)) (hn : n = cs.length)
  (ho : ∀ i, i < o → i < n → ∀ k, Abv cs i k → bit (S i) k = true) {i : Nat} (hi : i < n) (k : Nat) : bit (S i) k = true ↔ Abv cs i k := by
 obtain ⟨_, h2⟩ := h.off rfl
 subst hn
 refine ⟨hs i k hi, fun ha => ?_⟩
 induction ha with
 | @one i j hu =>
  by_cases hlt : i < o
  ·exact ho i hlt hi _ (.one hu)
  ·exact (h2 i (by omega) hi j ((hdir i j hi).2 hu)).1
 | @more i j k hu _ ih =>
  by_cases hlt : i < o
  ·exact ho i hlt hi _ (.more hu (by assumption))
  ·exact (h2 i (by omega) hi j ((hdir i j hi).2 hu)).2 k (ih hu.lt.2)
/-- n classes, of which those ahead of m have their sets; the rows of interfaces lie below B, in none of the classes' blocks. -/
structure Half (B o n m : Nat) (cl sl : Nat → Nat) (up : Nat → Option Nat) (ifl : Nat → List Nat) (S : Nat → List Nat) (w : World) : Prop where
 few : n ≤ 1000
 cls : ∀ i, i < n → ∃ k : KC, KAt (cl i) k w ∧ k.place = i ∧ k.up = ptrV cl (up i) ∧ Row B 1 w k.ifs (ifl i).length ((ifl i).map fun j => ptrV cl (some j)) ∧ (i < m → k.above = .slice (some ⟨sl i, 0, none⟩) (S i).length (S i).length) ∧ ∀ b o' q c, k.ifs = .slice (some ⟨b, o', none⟩) q c → ∀ j, j < n → cl j ≠ b
 cin : ∀ i j, i < n → j < n → cl i = cl j → i = j
 sets : ∀ i, i < m → SetAt (sl i) (S i) w
 inj : ∀ i j, i < m → j < m → sl i = sl j → i = j
 low : ∀ i, o ≤ i → i < m → B ≤ sl i
 upn : ∀ i j, i < n → up i = some j → j < n
 ifn : ∀ i j, i < n → j ∈ ifl i → j < n
 wide : ∀ i, o ≤ i → i < m → (S i).length = (n + 63) / 64
 len : ∀ i, i < m → (S i).length ≤ (n + 63) / 64
def put2 (sl : Nat → Nat) (i b : Nat) : Nat → Nat := fun j => if j = i then b else sl j
theorem put2_self (sl : Nat → Nat) (i b : Nat) : put2 sl i b i = b := by simp [put2]
theorem put2_ne (sl : Nat → Nat) {i j : Nat} (b : Nat) (h : j ≠ i) : put2 sl i b j = sl j := by simp [put2, h]
/-- The class's cells with another set. -/
def KC.set (k : KC) (v : Value) : KC := { k with above := v }
theorem KAt.put {c : Nat} {k : KC} {w : World} (h : KAt c k w) (v : Value) : KAt c (k.set v) (w.setCell ⟨c, 10, none⟩ v) := by
 unfold KAt
 rw [heap_set_eq h]
 simp [KC.cells, KC.set]
section
variable {B o n m : Nat} {cl sl : Nat → Nat} {up : Nat → Option Nat} {ifl : Nat → List Nat} {S : Nat → List Nat} {w w' : World}
theorem Half.full (H : Half B o n n cl sl up ifl S w) : Tab B o n cl sl up ifl S w :=
 ⟨H.few, fun i hi => by
  obtain ⟨k, h1, h2, h3, h4, h5, _⟩ := H.cls i hi
  exact ⟨k, h1, h2, h3, h4, h5 hi⟩, H.sets, H.inj, H.low, H.upn, H.ifn, H.wide, H.len⟩
theorem Half.lt (H : Half B o n m cl sl up ifl S w) {i : Nat} (hi : i < n) : cl i < w.heap.size := by
 obtain ⟨k, h1, _⟩ := H.cls i hi
 exact lt_of_block h1
/-- The m-th class's set is made. -/
theorem Half.step (H : Half B o n m cl sl up ifl S w) (hm : m < n) (hB : B ≤ w.heap.size) (ho : o ≤ m) :
  Half B o n (m + 1) cl (put2 sl m w.heap.size) up ifl (put1 S m (List.replicate ((n + 63) / 64) 0)) ((w.alloc (.cells (ucells (List.replicate ((n + 63) / 64) 0)).toArray 160)).setCell ⟨cl m, 10, none⟩ (.slice (some ⟨w.heap.size, 0, none⟩) ((n + 63) / 64) ((n + 63) / 64))) := by
 have hmc := H.lt hm
 have hst : ∀ i, i < m → sl i < w.heap.size := fun i hi => lt_of_block (H.sets i hi).row
 have hsc : ∀ i j, i < m → j < n → sl i ≠ cl j := fun i j hi hj e => by
  obtain ⟨k, h1, _⟩ := H.cls j hj
  exact set_ne h1 (H.sets i hi) e.symm
 refine ⟨H.few, fun i hi => ?_, H.cin, fun i hi => ?_, fun i j hi hj e => ?_, fun i h1 h2 => ?_, H.upn, H.ifn, fun i h1 h2 => ?_, fun i h1 => ?_⟩
 ·obtain ⟨k, h1, h2, h3, h4, h5, h6⟩ := H.cls i hi
  have hlt := lt_of_block h1
  have ha : KAt (cl i) k (w.alloc (.cells (ucells (List.replicate ((n + 63) / 64) 0)).toArray 160)) := (Below.heap_alloc _ _ _ hlt).trans h1
  have hrow : Row B 1 ((w.alloc (.cells (ucells (List.replicate ((n + 63) / 64) 0)).toArray 160)).setCell ⟨cl m, 10, none⟩ (.slice (some ⟨w.heap.size, 0, none⟩) ((n + 63) / 64) ((n + 63) / 64))) k.ifs (ifl i).length ((ifl i).map fun j => ptrV cl (some j)) := by
   obtain ⟨A, cap, e, q1, q2, q3, q4⟩ := h4
   refine ⟨A, cap, e, q1, q2, q3, fun hn => ?_⟩
   obtain ⟨b, o', hA, hb, hc⟩ := q4 hn
   refine ⟨b, o', hA, hb, fun j u hu => ?_⟩
   have hne := h6 b o' _ _ (by rw [e, hA]) m hm
   have : ((w.alloc (.cells (ucells (List.replicate ((n + 63) / 64) 0)).toArray 160)).setCell ⟨cl m, 10, none⟩ (.slice (some ⟨w.heap.size, 0, none⟩) ((n + 63) / 64) ((n + 63) / 64))).heap[b]? = w.heap[b]? :=
    (Below.heap_setCell _ _ _ _ (fun e => hne e.symm)).trans (Below.heap_alloc _ _ _ (by omega))
   have h7 := hc j u hu
   unfold World.cell? at h7 ⊢
   rw [this]
   exact h7
  by_cases e : i = m
  ·subst e
   refine ⟨k.set _, ha.put _, h2, h3, hrow, fun _ => ?_, h6⟩
   rw [put2_self, put1_self, List.length_replicate]
   rfl
  ·refine ⟨k, (Below.heap_setCell _ _ _ _ (fun e2 => e (H.cin i m hi hm e2))).trans ha, h2, h3, hrow, fun hlt => ?_, h6⟩
   rw [put2_ne _ _ e, put1_ne _ _ e]
   exact h5 (by omega)
 ·by_cases e : i = m
  ·subst e
   rw [put2_self, put1_self]
   refine ⟨(Below.heap_setCell _ _ _ _ (by show w.heap.size ≠ cl i; omega)).trans ?_, fun x hx => ?_, by rw [List.length_replicate]; have := H.few; omega⟩
   ·show (w.heap.push _)[w.heap.size]? = _
    simp
   ·rw [List.eq_of_mem_replicate hx]; omega
  ·rw [put2_ne _ _ e, put1_ne _ _ e]
   have h1 := H.sets i (by omega)
   exact ⟨(Below.heap_setCell _ _ _ _ (hsc i m (by omega) hm)).trans ((Below.heap_alloc _ _ _ (hst i (by omega))).trans h1.row), h1.word, h1.few⟩
 ·by_cases e1 : i = m
  ·by_cases e2 : j = m
   ·rw [e1, e2]
   ·rw [e1, put2_self, put2_ne _ _ e2] at e
    have := hst j (by omega)
    omega
  ·by_cases e2 : j = m
   ·rw [e2, put2_self, put2_ne _ _ e1] at e
    have := hst i (by omega)
    omega
   ·rw [put2_ne _ _ e1, put2_ne _ _ e2] at e
    exact H.inj i j (by omega) (by omega) e
 ·by_cases e : i = m
  ·subst e; rw [put2_self]; exact hB
  ·rw [put2_ne _ _ e]; exact H.low i h1 (by omega)
 ·by_cases e : i = m
  ·subst e; rw [put1_self, List.length_replicate]
  ·rw [put1_ne _ _ e]; exact H.wide i h1 (by omega)
 ·by_cases e : i = m
  ·subst e; rw [put1_self, List.length_replicate]; exact Nat.le_refl _
  ·rw [put1_ne _ _ e]; exact H.len i (by omega)
end
end Go.Proofs.YtmaknddlgppinaaGreatDoor
