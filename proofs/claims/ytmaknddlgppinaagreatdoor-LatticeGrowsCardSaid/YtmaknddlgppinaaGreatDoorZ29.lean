/-
  CUT and joined from the texts of this seat: Ia Ib If
-/
import Derived.Test.YtmaknddlgppinaaGreatDoorZ28
import Derived.Test.YtmaknddlgppinaaGreatDoorZ10
import Derived.Test.YtmaknddlgppinaaGreatDoorZ07
import Derived.Test.YtmaknddlgppinaaGreatDoorZ27
set_option linter.unusedVariables false
set_option linter.unusedSimpArgs false
namespace Go.Proofs.YtmaknddlgppinaaGreatDoor
open Go.RowKit
theorem encF_parts {f : Fl} (h : encF f = 0) : partsE f = 0 := by
 unfold encF at h
 split at h
 ·assumption
 ·exact h
theorem encF_class {f : Fl} (h : encF f = 0) : poolE f.pool = 0 ∧ classE f = 0 := by
 have := encF_parts h
 unfold partsE at this
 split at this
 ·rename_i h1
  split at this
  ·rename_i h2
   exact ⟨h1, h2⟩
  ·exact ⟨h1, this⟩
 ·rename_i h1
  exact absurd this h1
theorem classE_parts {f : Fl} (h : classE f = 0) : (f.fl = 0 ∨ f.fl = 2 ∨ f.fl = 3) ∧ tagged f.pool f.this 4 = true ∧ f.ifs.length ≤ 16 := by
 unfold classE at h
 split at h
 ·rename_i h1
  split at h
  ·rename_i h2
   split at h
   ·split at h
    ·cases h
    ·exact ⟨h1, h2, by omega⟩
   ·cases h
  ·cases h
 ·cases h
theorem u8_len (r : Nat) : (u8 r).length ≤ 4 := by
 unfold u8 bs u8N
 rw [List.length_map]
 split
 ·simp
 split
 ·simp
 split
 ·simp
 ·simp
theorem name_len {l : List UInt8} (h : nameL l = true) : l ≠ [] ∧ l.length ≤ 256 := by
 refine ⟨fun e => by rw [e] at h; exact absurd h (by decide), ?_⟩
 unfold nameL nameGo at h
 simp only [Bool.and_eq_true, decide_eq_true_eq] at h
 have e := valid_u8 l h.2
 have : ∀ rs : List Nat, (rs.flatMap u8).length ≤ 4 * rs.length := by
  intro rs
  induction rs with
  | nil => simp
  | cons r rs ih =>
   have := u8_len r
   simp only [List.flatMap_cons, List.length_append, List.length_cons]
   omega
 have := this (runes l)
 rw [e] at this
 omega
/-- A class constant of a right pool leads to a name. -/
theorem class_name {p : List Cn} (h : poolE p = 0) {i : Int} (ht : tagged p i 4 = true) : nameL (L (classP p i)) = true := by
 unfold poolE at h
 split at h
 ·cases h
 have h1 := firstErr_zero h
 unfold classP
 rw [if_pos ht]
 unfold tagged at ht
 rw [Bool.and_eq_true, decide_eq_true_eq] at ht
 obtain ⟨h2, h3⟩ := ht
 unfold clsL
 cases hc : p[(i - 1).toNat]? with
 | none => simp only [hc] at h3; cases h3
 | some c =>
  simp only [hc, decide_eq_true_eq] at h3
  have h4 := h1 c (List.mem_of_getElem? hc)
  unfold constE at h4
  split at h4
  ·split at h4
   ·unfold textE at h4
    rw [if_neg (by omega), if_pos h3] at h4
    unfold nameE at h4
    simp only
    split at h4
    ·assumption
    ·cases h4
   ·cases h4
  ·cases h4
theorem class_size {p : List Cn} (h : poolE p = 0) (i : Int) : (classP p i).size ≤ 1000000 := by
 by_cases ht : tagged p i 4 = true
 ·have := (name_len (class_name h ht)).2
  have e : (L (classP p i)).length = (classP p i).size := (size_L _).symm
  omega
 ·unfold classP
  rw [if_neg ht]
  show 0 ≤ 1000000
  omega
theorem pcOf_name {f : Fl} (h : encF f = 0) (at_ : Int) : (pcOf f at_).name ≠ [] := by
 obtain ⟨h1, h2⟩ := encF_class h
 exact (name_len (class_name h1 (classE_parts h2).2.1)).1
theorem filterMap_same {α β : Type} {f g : α → Option β} : ∀ {l : List α}, (∀ x ∈ l, f x = g x) → l.filterMap f = l.filterMap g
 | [], _ => rfl
 | x :: l, h => by
  rw [List.filterMap_cons, List.filterMap_cons, h x (by simp), filterMap_same fun z hz => h z (List.mem_cons_of_mem _ hz)]
theorem ifs_app {cs ds : List PC} (G : Good cs) {i : Nat} (hi : i < cs.length) : ifs (cs ++ ds) i = ifs cs i := by
 have hc := List.getElem?_eq_getElem hi
 generalize cs[i] = c at hc
 rw [ifs_at hc, ifs_at ((get_app hi).trans hc)]
 by_cases h0 : i = 0
 ·subst h0
  rw [G.obj] at hc
  cases hc
  rfl
 ·obtain ⟨_, h2, _⟩ := kindE_zero (G.kind i c hc h0)
  refine filterMap_same fun nm hnm => ?_
  obtain ⟨j, hj⟩ := h2 nm hnm
  rw [hj, ix_app hj]
theorem ifs_lt {cs : List PC} {i j : Nat} (h : j ∈ ifs cs i) : j < cs.length := by
 unfold ifs at h
 split at h
 ·cases h
 ·obtain ⟨nm, _, h⟩ := List.mem_filterMap.1 h
  exact ix_lt h
theorem sup_lt {cs : List PC} {i j : Nat} (h : sup cs i = some j) : j < cs.length := (sup_up h).lt.2
theorem own_upd_ne {w w' : World} {base : Nat} {e : TypeId} {size : Nat} {v : Value} {n : Nat} {xs : List Value} {cb : Nat} {k : KC} (h : w.ownsRow base e size v n xs) (hk : KAt cb k w) (he : (116 : TypeId) ≠ e) (hu : Upd [cb] w w') : w'.ownsRow base e size v n xs := by
 have hn := hown_ne h hk he
 obtain ⟨q1, q2⟩ := h
 refine ⟨q1, ?_⟩
 rcases q2 with q2 | ⟨g, cap, cur, hv, hg, hgg, r⟩
 ·exact .inl q2
 ·subst hv
  exact .inr ⟨g, cap, cur, rfl, hg, (hu.block g (lt_of_block hgg) (by simpa [Value.ownBlock] using hn)).trans hgg, r⟩
theorem OwnS.upd {w w' : World} {base cb : Nat} {v : Value} {ns : List (List UInt8)} {k : KC} (h : OwnS w base v ns) (hk : KAt cb k w) (hu : Upd [cb] w w') : OwnS w' base v ns := by
 obtain ⟨ss, h1, h2, h3⟩ := h
 exact ⟨ss, h1, h2, own_upd_ne h3 hk (by decide) hu⟩
section
variable {base nb mb o m : Nat} {cs : List PC} {cl : Nat → Nat} {w w' : World}
theorem kat_table {cb : Nat} {k : KC} {x : Array Value} (hk : KAt cb k w) (t : w.heap[nb]? = some (.cells x 112 (0, 0))) : nb ≠ cb := by
 rintro rfl
 unfold KAt at hk
 rw [t] at hk
 cases hk
theorem AT.upd (h : AT base nb mb o cs cl w) {cb : Nat} {k : KC} (hk : KAt cb k w) (hu : Upd [cb] w w') : AT base nb mb o cs cl w' := by
 obtain ⟨v, h1, h2⟩ := h.t0
 have hm : mb ≠ cb := by
  rintro rfl
  obtain ⟨es, n, hmo⟩ := h.map.obj
  unfold KAt at hk
  rw [hmo] at hk
  cases hk
 exact ⟨h.few, Nat.le_trans h.blt hu.size, h.nge, h.mge, h.map.stay hu (by simpa using hm), v, (hu.block nb (lt_of_block h1) (by simpa using kat_table hk h1)).trans h1, own_upd_ne h2 hk (by decide) hu⟩
/-- One class more is linked. -/
theorem Lnk.linked (h : Lnk base o m cs cl w) {c : PC} (hc : cs[o + m]? = some c) {k : KC} (hk : KAt (cl (o + m)) k w) (hp : k.place = o + m) (hn : Nmd k c) (hrow : OwnS w base k.ifn c.ifaces) (ha : k.above = .slice Option.none 0 0)
  {v : Value} (hL : LI cs cl (cl (o + m)) k c w c.ifaces.length v w') (h0 : kindE cs c = 0) (hb : base ≤ w.heap.size) : Lnk base o (m + 1) cs cl w' := by
 have hlt := (List.getElem?_eq_some_iff.1 hc).1
 refine ⟨h.low, h.inj, fun i d hi hd => ?_⟩
 by_cases e : i = o + m
 ·subst e
  rw [hc] at hd
  cases hd
  have hat : KAt (cl (o + m)) (k.link (ptrV cl (ix cs c.super)) v) w' := hL.at_
  refine ⟨_, hat, hp, ⟨hn.nm, hn.nsz, hn.sp, hn.ssz, hn.ifc, hn.abs, hn.at_, hn.few⟩, hrow.upd hk hL.upd, ha, fun _ => ⟨?_, ?_⟩, fun hf => absurd hf (by omega)⟩
  ·rw [sup_at hc]
   rfl
  ·have ho := hL.own
   rw [List.take_length] at ho
   obtain ⟨_, h2, _⟩ := kindE_zero h0
   have e1 := filterMap_all (f := ix cs) (l := c.ifaces) h2
   have e2 : (ifs cs (o + m)).map (fun j => ptrV cl (some j)) = c.ifaces.map fun nm => ptrV cl (ix cs nm) := by
    rw [ifs_at hc]
    have := congrArg (List.map (ptrV cl)) e1
    simpa [List.map_map, Function.comp_def] using this
   have e3 : (ifs cs (o + m)).length = c.ifaces.length := by
    have := congrArg List.length e2
    simpa using this
   rw [e2, e3]
   exact hown_mono ho hb
 ·have hlt2 := (List.getElem?_eq_some_iff.1 hd).1
  obtain ⟨ki, k1, k2, k3, k4, k5, k6, k7⟩ := h.cls i d hi hd
  have hne : cl i ≠ cl (o + m) := fun e2 => e (h.inj i (o + m) hi (by omega) hlt2 hlt e2)
  refine ⟨ki, (hL.upd.block _ (lt_of_block k1) (by simpa using hne)).trans k1, k2, k3, k4.upd hk hL.upd, k5, fun hf => ?_, fun hf => k7 (by omega)⟩
  obtain ⟨l1, l2⟩ := k6 (by omega)
  exact ⟨l1, own_upd_ne l2 hk (by decide) hL.upd⟩
end
section
variable {B tb mb0 cap ow base nb mb c o : Nat} {A : Option Addr} {cs ds es : List PC} {cl0 cl sl : Nat → Nat} {S : Nat → List Nat} {w0 w w' : World}
/-- Where the classes of a table stand, in one that begins with it. -/
theorem HT.old (h : HT B tb mb0 A cap ow cs cl0 sl S w) {i : Nat} (hi : i < cs.length) : ∃ k, KAt (cl0 i) k w ∧ k.place = i ∧ k.up = ptrV cl0 (sup cs i) ∧ Row B 1 w k.ifs (ifs cs i).length ((ifs cs i).map fun j => ptrV cl0 (some j)) ∧ k.above = .slice (some ⟨sl i, 0, none⟩) (S i).length (S i).length ∧ ∀ b o q p, k.ifs = .slice (some ⟨b, o, none⟩) q p → b < B ∧ ∀ j, j < cs.length → cl0 j ≠ b := by
 obtain ⟨k, h1, h2, h3, h4, h5⟩ := h.tab.cls i hi
 exact ⟨k, h1, h2, h3, h4, h5, h.off i k hi h1⟩
theorem ptrV_same {cl cl0 : Nat → Nat} {n : Nat} (hcl : ∀ i, i < n → cl i = cl0 i) {u : Option Nat} (hu : ∀ j, u = some j → j < n) : ptrV cl0 u = ptrV cl u := by
 cases u with
 | none => rfl
 | some j => simp [ptrV, hcl j (hu j rfl)]
/-- Before the sets of the own classes are made. -/
theorem half_of (h : HT B tb mb0 A cap ow cs cl0 sl S w) (hB : B ≤ base) (hA : AT base nb mb cs.length ds cl w) (hL : Lnk base cs.length c ds cl w) (hds : ds = cs ++ es) (hc : es.length = c) (hn : ∀ d ∈ es, d.name ≠ [])
  (hcl : ∀ i, i < cs.length → cl i = cl0 i) : Half w.heap.size cs.length ds.length cs.length cl sl (sup ds) (ifs ds) S w := by
 have hlen : ds.length = cs.length + c := by rw [hds, List.length_append, hc]
 have hbw := hA.blt
 have T := h.tab
 have kat : ∀ j, j < ds.length → ∃ k, KAt (cl j) k w := fun j hj => by
  by_cases ho : j < cs.length
  ·obtain ⟨k, h1, _⟩ := h.old ho
   exact ⟨k, by rw [hcl j ho]; exact h1⟩
  ·obtain ⟨k, h1, _⟩ := hL.cls j _ (by omega) (List.getElem?_eq_getElem hj)
   exact ⟨k, h1⟩
 refine ⟨hA.few, fun i hi => ?_, fun i j hi hj e => ?_, fun i hi => T.sets i hi, fun i j hi hj e => T.inj i j hi hj e, fun i h1 h2 => absurd h2 (by omega), fun i j _ hj => sup_lt hj, fun i j _ hj => ifs_lt hj, fun i h1 h2 => absurd h2 (by omega), fun i hi => ?_⟩
 ·by_cases ho : i < cs.length
  ·obtain ⟨k, h1, h2, h3, h4, h5, h6⟩ := h.old ho
   have es1 : sup ds i = sup cs i := by rw [hds]; exact sup_app h.good hn ho
   have es2 : ifs ds i = ifs cs i := by rw [hds]; exact ifs_app h.good ho
   refine ⟨k, by rw [hcl i ho]; exact h1, h2, ?_, ?_, fun _ => h5, fun b o' q p hk j hj => ?_⟩
   ·rw [h3, es1]
    exact ptrV_same hcl fun j hj => sup_lt hj
   ·rw [es2]
    have e : ((ifs cs i).map fun j => ptrV cl (some j)) = (ifs cs i).map fun j => ptrV cl0 (some j) := List.map_congr_left fun j hj => by simp [ptrV, hcl j (ifs_lt hj)]
    rw [e]
    exact h4.more h.hB
   ·obtain ⟨q1, q2⟩ := h6 b o' q p hk
    by_cases hjo : j < cs.length
    ·rw [hcl j hjo]; exact q2 j hjo
    ·have := hL.low j (by omega) hj
     omega
  ·obtain ⟨k, h1, h2, h3, h4, h5, h6, h7⟩ := hL.cls i _ (by omega) (List.getElem?_eq_getElem hi)
   obtain ⟨l1, l2⟩ := h6 (by omega)
   refine ⟨k, h1, h2, l1, Row.hof_own l2, fun hf => absurd hf ho, fun b o' q p hk j hj => ?_⟩
   obtain ⟨kj, hkj⟩ := kat j hj
   have := hown_ne l2 hkj (by decide)
   rw [hk] at this
   intro e
   exact this (by simp [Value.ownBlock, e])
 ·by_cases ho : i < cs.length <;> by_cases hp : j < cs.length
  ·rw [hcl i ho, hcl j hp] at e
   exact T.cin ho hp e
  ·have := hL.low j (by omega) hj
   have h2 := h.clt i ho
   rw [hcl i ho] at e
   omega
  ·have := hL.low i (by omega) hi
   have h2 := h.clt j hp
   rw [hcl j hp] at e
   omega
  ·exact hL.inj i j (by omega) (by omega) hi hj e
 ·have := T.len i hi
  omega
/-- The row of the own classes. -/
theorem ownc_of (hA : AT base nb mb o ds cl w) (hk : ∀ i, o ≤ i → i < ds.length → ∃ k, KAt (cl i) k w) {cap' : Nat} {A' : Option Addr} (hlen : ds.length = o + c) (hv : w.heap[nb]? = some (.cells #[.slice A' ds.length cap', .map (some mb), .int .i64 (o : Int)] 112 (0, 0))) {Aq : Option Addr} (hq2 : ∀ g, A' = some ⟨g, 0, none⟩ → 0 < c → Aq = some ⟨g, o, none⟩) : OwnC o c ds.length cl Aq w := by
 obtain ⟨v, h1, h2⟩ := hA.t0
 rw [hv] at h1
 have hvv : v = .slice A' ds.length cap' := by
  have := congrArg (fun x => match x with | some (Obj.cells y _ _) => y[0]? | _ => none) h1
  simpa using this.symm
 subst hvv
 intro j hj
 rcases h2.2 with ⟨e, h0⟩ | ⟨gg, cap2, cur, e, hge, hgg, r⟩
 ·omega
 ·injection e with e1 e2 e3
  refine ⟨gg, o, hq2 gg e1 (by omega), lt_of_block hgg, fun i hi hn e => ?_, ?_⟩
  ·obtain ⟨k, hki⟩ := hk i hi hn
   unfold KAt at hki
   rw [e, hgg] at hki
   cases hki
  ·have := h2.cells (g := gg) (by rw [e1]; rfl) (o + j) (ptrV cl (some (o + j))) (ptrs_at cl (by omega))
   rw [plain_add, Nat.zero_add] at this
   exact this
theorem own_fr {o n : Nat} {e : TypeId} {size m : Nat} {v : Value} {xs : List Value} {bs : Nat} (h : w.ownsRow bs e size v m xs) (he : (116 : TypeId) ≠ e) (hk : ∀ i, o ≤ i → i < n → ∃ k, KAt (cl i) k w) (hF : Fr o n cl w w') : w'.ownsRow bs e size v m xs := by
 obtain ⟨q1, q2⟩ := h
 refine ⟨q1, ?_⟩
 rcases q2 with q2 | ⟨g, cap, cur, hv, hg, hgg, r⟩
 ·exact .inl q2
 ·subst hv
  refine .inr ⟨g, cap, cur, rfl, hg, (hF.block g (lt_of_block hgg) fun i hi hn e2 => ?_).trans hgg, r⟩
  obtain ⟨k, hki⟩ := hk i hi hn
  unfold KAt at hki
  rw [e2, hgg] at hki
  exact he (by injection hki with h; injection h with _ h _; exact h.symm)
theorem KAt.ifs_eq {q : Nat} {k l : KC} (h : KAt q k w) (h2 : KAt q l w) : k.ifs = l.ifs := by
 have e : w.cell? ⟨q, 9, none⟩ = some k.ifs := h.cell 9
 have e2 : w.cell? ⟨q, 9, none⟩ = some l.ifs := h2.cell 9
 rw [e] at e2
 exact Option.some.inj e2
/-- All is made: a table. -/
theorem ht_of (h : HT B tb mb0 A cap ow cs cl0 sl S w) (hB : B ≤ base) (hA : AT base nb mb cs.length ds cl w) (hL : Lnk base cs.length c ds cl w) (hds : ds = cs ++ es) (hc : es.length = c) (hn : ∀ d ∈ es, d.name ≠ [])
  (hcl : ∀ i, i < cs.length → cl i = cl0 i) {sl' : Nat → Nat} {S' : Nat → List Nat} (T : Tab w.heap.size cs.length ds.length cl sl' (sup ds) (ifs ds) S' w') (hex : ∀ i, i < ds.length → ∀ k, bit (S' i) k = true ↔ Abv ds i k)
  (hF : Fr cs.length ds.length cl w w') (hN : Nm ds.length cl w w') (G : Good ds) : ∃ A' cap', HT w'.heap.size nb mb A' cap' cs.length ds cl sl' S' w' := by
 have hlen : ds.length = cs.length + c := by rw [hds, List.length_append, hc]
 have H := half_of h hB hA hL hds hc hn hcl
 have kown : ∀ i, cs.length ≤ i → i < ds.length → ∃ k, KAt (cl i) k w := fun i h1 h2 => by
  obtain ⟨k, hk, _⟩ := hL.cls i _ h1 (List.getElem?_eq_getElem h2)
  exact ⟨k, hk⟩
 have hbw := hA.blt
 have hsz := hF.size
 have oldb : ∀ b, b < B → w'.heap[b]? = w.heap[b]? := fun b hb => hF.block b (by omega) fun i h1 h2 e => by
  have := hL.low i h1 h2
  omega
 have oldc : ∀ p : Addr, p.block < B → w'.cell? p = w.cell? p := fun p hp => by
  unfold World.cell?
  rw [oldb p.block hp]
 obtain ⟨v, t0, town⟩ := hA.t0
 obtain ⟨A', cap', rfl⟩ := hown_form town
 have hnb := lt_of_block t0
 have hmb := hA.map.lt
 have tne : ∀ i, cs.length ≤ i → i < ds.length → cl i ≠ nb := fun i h1 h2 e => by
  obtain ⟨k, hk⟩ := kown i h1 h2
  exact kat_table hk t0 e.symm
 have mne : ∀ i, cs.length ≤ i → i < ds.length → cl i ≠ mb := fun i h1 h2 e => by
  obtain ⟨k, hk⟩ := kown i h1 h2
  obtain ⟨xs, q, hmo⟩ := hA.map.obj
  unfold KAt at hk
  rw [e, hmo] at hk
  cases hk
 have town' := own_fr town (by decide) kown hF
 refine ⟨A', cap', G, Nat.le_refl _, by omega, by omega, fun i hi => ?_, fun i hi => lt_of_block (T.sets i hi).row, (hF.block nb hnb tne).trans t0, hA.map.same (hF.block mb hmb mne), Row.hof_own town', ?_, hex, fun i d hd => ?_, by omega, fun i k hi hk b o q p hv => ?_⟩
 ·obtain ⟨k, h1, _⟩ := T.cls i hi
  exact lt_of_block h1
 ·refine ⟨T.few, fun i hi => ?_, T.sets, T.inj, fun i h1 h2 => absurd h2 (by omega), T.upn, T.ifn, fun i h1 h2 => absurd h2 (by omega), T.len⟩
  obtain ⟨k, h1, h2, h3, h4, h5⟩ := T.cls i hi
  exact ⟨k, h1, h2, h3, h4.more hsz, h5⟩
 ·have hi := (List.getElem?_eq_some_iff.1 hd).1
  by_cases ho : i < cs.length
  ·rw [hds, get_app ho] at hd
   obtain ⟨k, h1, h2⟩ := h.says i d hd
   rw [hcl i ho]
   exact ⟨k, (oldb _ (h.clt i ho)).trans h1, h2.keep (by omega) oldc⟩
  ·obtain ⟨k, h1, h2, h3, h4, h5, h6, h7⟩ := hL.cls i d (by omega) hd
   obtain ⟨u, hu⟩ := hN i hi k h1
   obtain ⟨ss, s1, s2, s3⟩ := h4
   have s4 := own_fr s3 (by decide) kown hF
   exact ⟨_, hu, ⟨h3.nm, h3.nsz, h3.sp, h3.ssz, h3.ifc, h3.abs, h3.at_, h3.few⟩, ⟨ss, s1, s2, Row.hof_own s4⟩, own_plain s4⟩
 ·obtain ⟨k0, h1, _, _, _, _, h6⟩ := H.cls i hi
  obtain ⟨u, hu⟩ := hN i hi k0 h1
  have e := hk.ifs_eq hu
  rw [hv] at e
  have e2 : k0.ifs = .slice (some ⟨b, o, none⟩) q p := e.symm
  refine ⟨?_, h6 b o q p e2⟩
  by_cases ho : i < cs.length
  ·have h1' : KAt (cl0 i) k0 w := by rw [← hcl i ho]; exact h1
   have := (h.off i k0 ho h1' b o q p e2).1
   omega
  ·obtain ⟨k, g1, _, _, _, _, g6, _⟩ := hL.cls i _ (by omega) (List.getElem?_eq_getElem hi)
   obtain ⟨_, l2⟩ := g6 (by omega)
   rw [g1.ifs_eq h1, e2] at l2
   have := (l2.lt b rfl).2
   omega
/-- The same where there is no table ahead: all classes are own. -/
theorem half_0 (hA : AT base nb mb 0 ds cl w) (hL : Lnk base 0 ds.length ds cl w) : Half w.heap.size 0 ds.length 0 cl sl (sup ds) (ifs ds) S w := by
 have hbw := hA.blt
 have kat : ∀ j, j < ds.length → ∃ k, KAt (cl j) k w := fun j hj => by
  obtain ⟨k, h1, _⟩ := hL.cls j _ (by omega) (List.getElem?_eq_getElem hj)
  exact ⟨k, h1⟩
 refine ⟨hA.few, fun i hi => ?_, fun i j hi hj e => hL.inj i j (by omega) (by omega) hi hj e, fun i hi => absurd hi (by omega), fun i j hi => absurd hi (by omega), fun i h1 h2 => absurd h2 (by omega), fun i j _ hj => sup_lt hj, fun i j _ hj => ifs_lt hj, fun i h1 h2 => absurd h2 (by omega), fun i hi => absurd hi (by omega)⟩
 obtain ⟨k, h1, h2, h3, h4, h5, h6, h7⟩ := hL.cls i _ (by omega) (List.getElem?_eq_getElem hi)
 obtain ⟨l1, l2⟩ := h6 (by omega)
 refine ⟨k, h1, h2, l1, Row.hof_own l2, fun hf => absurd hf (by omega), fun b o' q p hk j hj => ?_⟩
 obtain ⟨kj, hkj⟩ := kat j hj
 have := hown_ne l2 hkj (by decide)
 rw [hk] at this
 intro e
 exact this (by simp [Value.ownBlock, e])
theorem ht_0 (hA : AT base nb mb 0 ds cl w) (hL : Lnk base 0 ds.length ds cl w) {sl' : Nat → Nat} {S' : Nat → List Nat} (T : Tab w.heap.size 0 ds.length cl sl' (sup ds) (ifs ds) S' w') (hex : ∀ i, i < ds.length → ∀ k, bit (S' i) k = true ↔ Abv ds i k)
  (hF : Fr 0 ds.length cl w w') (hN : Nm ds.length cl w w') (G : Good ds) : ∃ A' cap', HT w'.heap.size nb mb A' cap' 0 ds cl sl' S' w' := by
 have H := half_0 (sl := sl') (S := S') hA hL
 have kown : ∀ i, 0 ≤ i → i < ds.length → ∃ k, KAt (cl i) k w := fun i h1 h2 => by
  obtain ⟨k, hk, _⟩ := hL.cls i _ h1 (List.getElem?_eq_getElem h2)
  exact ⟨k, hk⟩
 have hbw := hA.blt
 have hsz := hF.size
 obtain ⟨v, t0, town⟩ := hA.t0
 obtain ⟨A', cap', rfl⟩ := hown_form town
 have hnb := lt_of_block t0
 have hmb := hA.map.lt
 have tne : ∀ i, 0 ≤ i → i < ds.length → cl i ≠ nb := fun i h1 h2 e => by
  obtain ⟨k, hk⟩ := kown i h1 h2
  exact kat_table hk t0 e.symm
 have mne : ∀ i, 0 ≤ i → i < ds.length → cl i ≠ mb := fun i h1 h2 e => by
  obtain ⟨k, hk⟩ := kown i h1 h2
  obtain ⟨xs, q, hmo⟩ := hA.map.obj
  unfold KAt at hk
  rw [e, hmo] at hk
  cases hk
 have town' := own_fr town (by decide) kown hF
 refine ⟨A', cap', G, Nat.le_refl _, by omega, by omega, fun i hi => ?_, fun i hi => lt_of_block (T.sets i hi).row, (hF.block nb hnb tne).trans t0, hA.map.same (hF.block mb hmb mne), Row.hof_own town', ?_, hex, fun i d hd => ?_, by omega, fun i k hi hk b o q p hv => ?_⟩
 ·obtain ⟨k, h1, _⟩ := T.cls i hi
  exact lt_of_block h1
 ·refine ⟨T.few, fun i hi => ?_, T.sets, T.inj, fun i h1 h2 => absurd h2 (by omega), T.upn, T.ifn, fun i h1 h2 => absurd h2 (by omega), T.len⟩
  obtain ⟨k, h1, h2, h3, h4, h5⟩ := T.cls i hi
  exact ⟨k, h1, h2, h3, h4.more hsz, h5⟩
 ·have hi := (List.getElem?_eq_some_iff.1 hd).1
  obtain ⟨k, h1, h2, h3, h4, h5, h6, h7⟩ := hL.cls i d (by omega) hd
  obtain ⟨u, hu⟩ := hN i hi k h1
  obtain ⟨ss, s1, s2, s3⟩ := h4
  have s4 := own_fr s3 (by decide) kown hF
  exact ⟨_, hu, ⟨h3.nm, h3.nsz, h3.sp, h3.ssz, h3.ifc, h3.abs, h3.at_, h3.few⟩, ⟨ss, s1, s2, Row.hof_own s4⟩, own_plain s4⟩
 ·obtain ⟨k0, h1, _, _, _, _, h6⟩ := H.cls i hi
  obtain ⟨u, hu⟩ := hN i hi k0 h1
  have e := hk.ifs_eq hu
  rw [hv] at e
  have e2 : k0.ifs = .slice (some ⟨b, o, none⟩) q p := e.symm
  refine ⟨?_, h6 b o q p e2⟩
  obtain ⟨k, g1, _, _, _, _, g6, _⟩ := hL.cls i _ (by omega) (List.getElem?_eq_getElem hi)
  obtain ⟨_, l2⟩ := g6 (by omega)
  rw [g1.ifs_eq h1, e2] at l2
  have := (l2.lt b rfl).2
  omega
end
theorem hbelow_drewN {B : Nat} {a w : World} (h : Below B a w) (n : Nat) : Below B a (w.drewN n) := ⟨h.os, h.tape, h.output, h.size, h.block⟩
/-- What addFile leaves. -/
def AddAns (base nb mb o : Nat) (cs : List PC) (cl : Nat → Nat) (w : World) (f : Fl) (at_ : Int) (e : Ending) (w' : World) : Prop :=
 (encF f ≠ 0 ∧ e = .returned (.int .i64 (encF f)) ∧ Below w.heap.size w w') ∨
 (encF f = 0 ∧ ix cs (pcOf f at_).name ≠ none ∧ e = .returned (.int .i64 15) ∧ Below w.heap.size w w') ∨
 (encF f = 0 ∧ ix cs (pcOf f at_).name = none ∧ e = .returned (.int .i64 0) ∧ ∃ cb, w.heap.size ≤ cb ∧ AT base nb mb o (cs ++ [pcOf f at_]) (put2 cl cs.length cb) w' ∧ Lnk base o 0 (cs ++ [pcOf f at_]) (put2 cl cs.length cb) w' ∧ Below base w w')
section
variable {base nb mb o : Nat} {cs : List PC} {cl : Nat → Nat} {w w1 w' : World}
/-- One class more, not linked yet. -/
theorem Lnk.grow (hL : Lnk base o 0 cs cl w1) (hA : AT base nb mb o cs cl w1) (ho : o ≤ cs.length) {c : PC} {cb : Nat} {k : KC} (hk : KAt cb k w1) (hnew : ∀ i, o ≤ i → i < cs.length → cl i ≠ cb) (hb : base ≤ cb) (hn : Nmd k c) (hrow : OwnS w1 base k.ifn c.ifaces) (ha : k.above = .slice Option.none 0 0) (hu : k.up = .pointer Option.none) (hi : k.ifs = .slice Option.none 0 0)
  (h3 : KAt cb (k.at cs.length) w') (h4 : Ex 108 nb cb w1 w') : Lnk base o 0 (cs ++ [c]) (put2 cl cs.length cb) w' := by
 obtain ⟨v, t0, _⟩ := hA.t0
 have hlen : (cs ++ [c]).length = cs.length + 1 := by simp
 refine ⟨fun i h1 h2 => ?_, fun i j h1 h2 h1' h2' e => ?_, fun i d h1 hd => ?_⟩
 ·by_cases e : i = cs.length
  ·subst e; rw [put2_self]; exact hb
  ·rw [put2_ne _ _ e]; exact hL.low i h1 (by omega)
 ·by_cases e1 : i = cs.length <;> by_cases e2 : j = cs.length
  ·omega
  ·subst e1
   rw [put2_self, put2_ne _ _ e2] at e
   exact absurd e.symm (hnew j h2 (by omega))
  ·subst e2
   rw [put2_self, put2_ne _ _ e1] at e
   exact absurd e (hnew i h1 (by omega))
  ·rw [put2_ne _ _ e1, put2_ne _ _ e2] at e
   exact hL.inj i j h1 h2 (by omega) (by omega) e
 ·have hd1 := (List.getElem?_eq_some_iff.1 hd).1
  by_cases e : i = cs.length
  ·subst e
   rw [List.getElem?_append_right (Nat.le_refl _)] at hd
   simp only [Nat.sub_self, List.getElem?_cons_zero, Option.some.injEq] at hd
   subst hd
   obtain ⟨ss, s1, s2, s3⟩ := hrow
   refine ⟨k.at cs.length, by rw [put2_self]; exact h3, rfl, ⟨hn.nm, hn.nsz, hn.sp, hn.ssz, hn.ifc, hn.abs, hn.at_, hn.few⟩, ⟨ss, s1, s2, h4.own (by decide) (hown_ne s3 t0 (by decide)) (hown_ne s3 hk (by decide)) s3⟩, ha, fun hf => absurd hf (by omega), fun _ => ⟨hu, hi⟩⟩
  ·rw [get_app (by omega)] at hd
   obtain ⟨ki, k1, k2, k3, k4, k5, k6, k7⟩ := hL.cls i d h1 hd
   obtain ⟨ss, s1, s2, s3⟩ := k4
   rw [put2_ne _ _ e]
   exact ⟨ki, h4.kat (by decide) (fun e => kat_table k1 t0 e.symm) (hnew i h1 (by omega)) k1, k2, k3, ⟨ss, s1, s2, h4.own (by decide) (hown_ne s3 t0 (by decide)) (hown_ne s3 hk (by decide)) s3⟩, k5, fun hf => absurd hf (by omega), fun _ => k7 (by omega)⟩
set_option maxRecDepth 1000000 in
set_option maxHeartbeats 6400000 in
theorem addFile_any (h : AT base nb mb o cs cl w) (hL : Lnk base o 0 cs cl w) (ho : o ≤ cs.length) {B : Nat} (f : Fl) (v : Value) (hf : FileAt B w v f) (hB : B ≤ base) (ht : FileOk f) (at_ : Int) (hfew : cs.length < 1000) :
  Calls Tryz.prog 79 #[.pointer (some ⟨nb, 0, none⟩), v, .int .i64 at_] w fun e w' => AddAns base nb mb o cs cl w f at_ e w' := by
 have hbw : B ≤ w.heap.size := Nat.le_trans hB h.blt
 obtain ⟨Ap, cp, Ai, ci, Af, cf, Am, cm, rfl, hfi⟩ := id hf
 have HR := Lib.hid (fun W (hb : Below w.heap.size w W) => ht.2 B _ W (hf.below hb hbw) (Nat.le_trans hbw hb.size))
 have H := Lib.hid h
 have HL := Lib.hid hL
 have HF := Lib.hid hf
 clear h hL hf hfi
 go_enter Tryz.func79, Tryz.ntmps79
 go_wp2_with fail
 refine (HR.out _ (by first | exact (Below.refl _ _).alloc (Nat.le_refl _) _)).mono ?_
 rintro e w1 ⟨rfl, hb1⟩
 have q0 : w1.heap[w.heap.size]? = some (.cells #[.slice Ap f.pool.length cp, .int .i64 f.fl, .int .i64 f.this, .int .i64 f.super, .slice Ai f.ifs.length ci, .slice Af f.fds.length cf, .slice Am f.mts.length cm] 94 (0, 0)) := (hb1.block _ (by simp)).trans (hheap_new w _)
 have hbw1 : Below w.heap.size w w1 := ((Below.refl _ _).alloc (Nat.le_refl _) _).trans (hb1.mono (by simp))
 have HB1 := Lib.hid hbw1
 obtain ⟨E, hE⟩ : ∃ E, E = encF f := ⟨_, rfl⟩
 rw [← hE]
 have HE := Lib.hid hE
 have b0 := kcells_of q0 0
 have b1 := kcells_of q0 1
 have b2 := kcells_of q0 2
 have b3 := kcells_of q0 3
 have b4 := kcells_of q0 4
 have b5 := kcells_of q0 5
 have b6 := kcells_of q0 6
 simp only [List.getElem?_toArray, List.getElem?_cons_succ, List.getElem?_cons_zero] at b0 b1 b2 b3 b4 b5 b6
 have hlt := lt_of_block q0
 clear hb1 hbw1 hE q0
 by_cases hz : E = 0
 ·have HZ := Lib.hid (show encF f = 0 by rw [← HE.out]; exact hz)
  subst hz
  obtain ⟨hp, hc⟩ := encF_class HZ.out
  obtain ⟨hfl, htg, h16⟩ := classE_parts hc
  have HC := Lib.hid (fun W (hb : Below w.heap.size w W) => classOf_any (B := B) f _ W (HF.out.below hb hbw) (Nat.le_trans hbw hb.size) at_ hfl (fun i => class_size hp i) (by omega))
  have HP := Lib.hid hp
  have H16 := Lib.hid h16
  clear hp hc hfl htg h16
  go_wp2_with fail
  refine (HC.out _ HB1.out).mono ?_
  rintro e w2 ⟨ifn, rfl, hrow, hb2⟩
  obtain ⟨aI, cI, rfl⟩ := hrow.form
  rw [List.length_map] at hrow
  have HB2 := Lib.hid (HB1.out.trans (hb2.mono HB1.out.size))
  obtain ⟨k, hkk⟩ : ∃ k : KC, k = ⟨classP f.pool f.this, classP f.pool f.super, .slice aI f.ifs.length cI, decide (f.fl = 3), !decide (f.fl = 0), false, at_, 0, .pointer none, .slice none 0 0, .slice none 0 0⟩ := ⟨_, rfl⟩
  have hk : KAt w2.heap.size k (w2.alloc (.cells #[.string (classP f.pool f.this), .string (classP f.pool f.super), .slice aI f.ifs.length cI, .bool (decide (f.fl = 3)), .bool (!decide (f.fl = 0)), .bool false, .int .i64 at_, .int .i64 0, .pointer none, .slice none 0 0, .slice none 0 0] 116)) := by
   rw [hkk]
   exact hheap_new w2 _
  have hA2 := H.out.below HB2.out
  have hL2 := HL.out.below HB2.out
  have hw2 := HB2.out.size
  have hbl := hA2.blt
  have hrow2 : OwnS w2 base k.ifn (f.ifs.map fun i => L (classP f.pool i)) := by
   obtain ⟨ss, s1, s2, s3⟩ := hrow
   rw [hkk]
   exact ⟨ss, s1, s2, hown_mono s3 (Nat.le_trans H.out.blt HB1.out.size)⟩
  have hn : Nmd k (pcOf f at_) := by
   rw [hkk]
   exact ⟨rfl, class_size HP.out _, rfl, class_size HP.out _, rfl, (by simp [pcOf]), rfl, by show (f.ifs.map _).length ≤ 1000; rw [List.length_map]; have := H16.out; omega⟩
  have ADD := Lib.hid (add_any (hA2.below ((Below.refl _ _).alloc (Nat.le_refl _) _)) hk hbl (by have := hA2.nlt; omega) (pcOf f at_) hn.nm hn.nsz hfew)
  have HA2 := Lib.hid (hA2.below ((Below.refl _ _).alloc (Nat.le_refl _) (.cells #[.string (classP f.pool f.this), .string (classP f.pool f.super), .slice aI f.ifs.length cI, .bool (decide (f.fl = 3)), .bool (!decide (f.fl = 0)), .bool false, .int .i64 at_, .int .i64 0, .pointer none, .slice none 0 0, .slice none 0 0] 116)))
  have HL2 := Lib.hid (hL2.below ((Below.refl _ _).alloc (Nat.le_refl _) (.cells #[.string (classP f.pool f.this), .string (classP f.pool f.super), .slice aI f.ifs.length cI, .bool (decide (f.fl = 3)), .bool (!decide (f.fl = 0)), .bool false, .int .i64 at_, .int .i64 0, .pointer none, .slice none 0 0, .slice none 0 0] 116)))
  have HOLD := Lib.hid (show ∀ i, o ≤ i → i < cs.length → cl i ≠ w2.heap.size from fun i h1 h2 e => by
   obtain ⟨ki, k1, _⟩ := hL2.cls i _ h1 (List.getElem?_eq_getElem h2)
   have := lt_of_block k1
   omega)
  have HK := Lib.hid hk
  have HN := Lib.hid hn
  have HROW := Lib.hid (hrow2.below ((Below.refl _ _).alloc (Nat.le_refl _) (.cells #[.string (classP f.pool f.this), .string (classP f.pool f.super), .slice aI f.ifs.length cI, .bool (decide (f.fl = 3)), .bool (!decide (f.fl = 0)), .bool false, .int .i64 at_, .int .i64 0, .pointer none, .slice none 0 0, .slice none 0 0] 116)))
  have HKK := Lib.hid hkk
  clear hA2 hL2 hrow2 hn hk hkk hrow hb2
  go_wp2_with fail
  refine ADD.out.mono ?_
  rintro e w3 (⟨h1, rfl, n, rfl⟩ | ⟨h1, rfl, h2, h3, h4, h5⟩)
  ·have H1 := Lib.hid h1
   clear h1
   go_wp2
   go_ret
   exact .inr (.inl ⟨HZ.out, H1.out, rfl, hbelow_drewN (HB2.out.alloc hw2 _) n⟩)
  ·have H1 := Lib.hid h1
   have H2 := Lib.hid h2
   have HLN := Lib.hid (HL2.out.grow HA2.out ho HK.out HOLD.out hbl HN.out HROW.out (by rw [HKK.out]) (by rw [HKK.out]) (by rw [HKK.out]) h3 h4)
   have H5 := Lib.hid h5
   clear h1 h2 h3 h4 h5
   go_wp2
   go_ret
   exact .inr (.inr ⟨HZ.out, H1.out, rfl, w2.heap.size, hw2, H2.out, HLN.out, ((HB2.out.mono H.out.blt).alloc (by omega) _).trans H5.out⟩)
 ·have hne : (E == 0) = false := by simpa using hz
  have HZ := Lib.hid (show encF f ≠ 0 by rw [← HE.out]; exact hz)
  clear hz
  go_wp2
  go_ret
  exact .inl ⟨HZ.out, by rw [HE.out]; rfl, HB1.out⟩
end
end Go.Proofs.YtmaknddlgppinaaGreatDoor
